/- DurableSequential: for operations one after the other what is allowed is what a block was at the last flush, and everything that was made of it since. No condition. -/
import Derived.Test.YtnmhnjjehglcfaaPack28
import Derived.Test.YtnmhnjjehglcfaaRows
import Derived.Deep.CutBlock
import Derived.Deep.DeepCutAuto
import Derived.WalkKit
import Derived.ProofKit
import Derived.SliceStrings
import Derived.OpenShut
import Derived.ShutString
import Derived.ChangeOld
import Derived.Carry
import Derived.Below

/- Operations that were answered one after the other: their only linearization is their order. Plain mathematics. -/
namespace Go.Proofs.Ytnmhnjjehglcfaa.LinMath
open HisMath ModMath CmdMath
def invEv (y : Ev) : Ev := { y with ret := false, err := 0, res := ⟨#[]⟩ }
def seqL (ys : List Ev) : List Ev := ys.flatMap fun y => [invEv y, y]
structure SeqOk (ys : List Ev) : Prop where
  ser : ∀ (i : Nat) (y : Ev), ys[i]? = some y → y.serial = (i : Int)
  one : ∀ y ∈ ys, y.ret = true ∧ y.err = 0 ∧ 0 ≤ y.queue ∧ y.queue < 4 ∧ fitsB y.kind y.err y.res.size = true
structure Seq (L ys : List Ev) : Prop where
  right : Right L
  ops : opsE L L.length = ys
  bef : ∀ (i j : Nat), i < j → j < ys.length → beforeB L (i : Int) (j : Int) = true
  low : ∀ x ∈ L, x.serial < (ys.length : Int)
theorem seqL_snoc (ys : List Ev) (y : Ev) : seqL (ys ++ [y]) = seqL ys ++ [invEv y] ++ [y] := by simp [seqL]
theorem seqL_len : ∀ ys : List Ev, (seqL ys).length = 2 * ys.length
  | [] => rfl
  | y :: ys => by
    have := seqL_len ys
    simp only [seqL, List.flatMap_cons, List.length_append, List.length_cons, List.length_nil] at this ⊢
    omega
theorem seqL_mem {ys : List Ev} {x : Ev} (h : x ∈ seqL ys) : ∃ y ∈ ys, x = invEv y ∨ x = y := by
  obtain ⟨y, hy, hx⟩ := List.mem_flatMap.1 h
  simp at hx
  exact ⟨y, hy, hx⟩
theorem SeqOk.front {ys : List Ev} {y : Ev} (h : SeqOk (ys ++ [y])) : SeqOk ys ∧ y.serial = (ys.length : Int) := by
  refine ⟨⟨fun i z hz => h.ser i z ?_, fun z hz => h.one z (List.mem_append_left _ hz)⟩, h.ser _ y ?_⟩
  · rw [List.getElem?_append_left (List.getElem?_eq_some_iff.1 hz).1]; exact hz
  · rw [List.getElem?_append_right (Nat.le_refl _), Nat.sub_self]; rfl
theorem seq_of : ∀ ys : List Ev, SeqOk ys → Seq (seqL ys) ys := by
  refine snoc_ind (fun _ => ⟨.nil, rfl, by intro i j _ hj; exact absurd hj (Nat.not_lt_zero _), by simp [seqL]⟩) ?_
  intro ys y ih h
  obtain ⟨hf, hs⟩ := h.front
  have q := ih hf
  obtain ⟨y1, y2, y3, y4, y5⟩ := h.one y (by simp)
  have hR1 : Right (seqL ys ++ [invEv y]) := .inv q.right ⟨rfl, y3, y4, by show 0 ≤ y.serial; omega, fun z hz hzs => by
    have := q.low z hz
    have h9 : (invEv y).serial = y.serial := rfl
    omega, rfl, rfl⟩
  have hR : Right (seqL ys ++ [invEv y] ++ [y]) := .ret hR1 ⟨y1, y3, y4, by omega, ⟨invEv y, by simp, rfl, rfl, rfl, rfl, rfl, rfl⟩, fun z hz hzr hzs => (by
    rcases List.mem_append.1 hz with h1 | h1
    · have := q.low z h1
      omega
    · rw [List.mem_singleton.1 h1] at hzr
      exact (Bool.false_ne_true hzr).elim), y5⟩
  rw [seqL_snoc]
  have htake : (seqL ys ++ [invEv y] ++ [y]).take (seqL ys).length = seqL ys := by
    rw [List.append_assoc, List.take_append_of_le_length (Nat.le_refl _), List.take_length]
  have hretL : ∀ e ∈ seqL ys, e.ret = false → 0 ≤ retI (seqL ys) e.serial := fun e he her => by
    have hm := (mem_ops q.right).2 ⟨e, he, her, rfl⟩
    rw [q.ops] at hm
    have := (hf.one _ hm).1
    rw [op_ret her, decide_eq_true_eq] at this
    exact this
  have hlast : retI (seqL ys ++ [invEv y] ++ [y]) y.serial = ((seqL ys).length + 1 : Nat) := by
    refine seek_at (j := (seqL ys).length + 1) (e := y) ?_ ?_ ?_
    · rw [List.getElem?_append_right (by simp)]; simp
    · simp [retP, y1]
    · intro i x hi hx
      rw [List.getElem?_append_left (by simp; omega)] at hx
      rcases List.mem_append.1 (List.mem_of_getElem? hx) with h1 | h1
      · have := q.low x h1
        simp [retP]
        intro _
        omega
      · rw [List.mem_singleton.1 h1]; rfl
  have hops : opsE (seqL ys ++ [invEv y] ++ [y]) (seqL ys ++ [invEv y] ++ [y]).length = ys ++ [y] := by
    rw [ops_right hR _ (Nat.le_refl _), List.take_length]
    have h0 := q.ops
    rw [ops_right q.right _ (Nat.le_refl _), List.take_length] at h0
    have e1 : (seqL ys ++ [invEv y] ++ [y]).filter (fun e => !e.ret) = (seqL ys).filter (fun e => !e.ret) ++ [invEv y] := by
      rw [List.filter_append, List.filter_append]
      simp [invEv, y1]
    rw [e1, List.map_append, List.map_singleton]
    congr 1
    · conv => rhs; rw [← h0]
      refine List.map_congr_left fun e he => ?_
      obtain ⟨he1, he2⟩ := List.mem_filter.1 he
      have h1 := hretL e he1 (by simpa using he2)
      have := op_front (L := seqL ys ++ [invEv y] ++ [y]) (n := (seqL ys).length) (e := e) (by rw [htake]; exact h1)
      rw [htake] at this
      exact this.symm
    · have : opOf (seqL ys ++ [invEv y] ++ [y]) (invEv y) = y := by
        unfold opOf
        have h9 : (invEv y).serial = y.serial := rfl
        rw [h9, hlast, if_pos (by omega), Int.toNat_natCast, List.getElem?_append_right (by simp)]
        simp only [List.length_append, List.length_singleton, Nat.sub_self]
        obtain ⟨a1, a2, a3, a4, a5, a6, a7, a8⟩ := y
        simp only at y1
        subst y1
        rfl
      rw [this]
  refine ⟨hR, hops, fun i j hij hj => ?_, fun x hx => ?_⟩
  · rw [List.length_append, List.length_singleton] at hj
    by_cases hjl : j < ys.length
    · exact before_front hR (n := (seqL ys).length) (by rw [htake]; exact q.bef i j hij hjl)
    · have hjl : j = ys.length := by omega
      obtain ⟨z, hz⟩ : ∃ z, ys[i]? = some z := ⟨_, List.getElem?_eq_getElem (by omega)⟩
      have hzs := hf.ser i z hz
      refine (before_sub hR).2 ⟨z, invEv y, ?_, (hf.one z (List.mem_of_getElem? hz)).1, hzs, rfl, by rw [hjl]; exact hs⟩
      refine List.Sublist.trans ?_ (List.sublist_append_left _ _)
      refine List.Sublist.append (l₁ := [z]) (l₂ := seqL ys) ?_ (List.Sublist.refl _)
      rw [List.singleton_sublist]
      exact List.mem_flatMap.2 ⟨z, List.mem_of_getElem? hz, by simp⟩
  · rw [List.length_append, List.length_singleton]
    rcases List.mem_append.1 hx with h1 | h1
    · rcases List.mem_append.1 h1 with h1 | h1
      · have := q.low x h1; omega
      · rw [List.mem_singleton.1 h1]
        show y.serial < _
        omega
    · rw [List.mem_singleton.1 h1]; omega
end Go.Proofs.Ytnmhnjjehglcfaa.LinMath

/- Writes, trims and flushes that were answered one after the other: what is allowed is what a block was at the last flush, and all that was made of it since. Plain mathematics. -/
namespace Go.Proofs.Ytnmhnjjehglcfaa.DurMath
open HisMath LinMath ModMath CmdMath
theorem seqL_at : ∀ {ys : List Ev} {k : Nat} {y : Ev}, ys[k]? = some y → (seqL ys)[2 * k]? = some (invEv y) ∧ (seqL ys)[2 * k + 1]? = some y
  | x :: ys, 0, y, h => by obtain rfl := Option.some.inj (show some x = some y from h); exact ⟨rfl, rfl⟩
  | x :: ys, k + 1, y, h => by
    have ih := seqL_at (ys := ys) (k := k) (y := y) h
    have e1 : 2 * (k + 1) = 2 * k + 1 + 1 := by omega
    have e2 : 2 * (k + 1) + 1 = (2 * k + 1) + 1 + 1 := by omega
    rw [e1]
    exact ih
theorem seqL_take : ∀ (ys : List Ev) (j : Nat), (seqL ys).take (2 * j) = seqL (ys.take j)
  | [], j => by simp [seqL]
  | y :: ys, 0 => rfl
  | y :: ys, j + 1 => by
    have ih := seqL_take ys j
    have e1 : 2 * (j + 1) = 2 * j + 1 + 1 := by omega
    rw [e1]
    show invEv y :: y :: (seqL ys).take (2 * j) = _
    rw [ih]
    rfl
theorem seq_ah {ys : List Ev} (h : SeqOk ys) {j k : Nat} {y : Ev} (hk : ys[k]? = some y) : ahB (seqL ys) y.serial (2 * j) = decide (k < j) := by
  have hs := h.ser k y hk
  have hl := (List.getElem?_eq_some_iff.1 hk).1
  by_cases hkj : k < j
  · rw [decide_eq_true hkj]
    obtain ⟨y1, y2, _⟩ := h.one y (List.mem_of_getElem? hk)
    exact ah_yes (seqL_at hk).2 (by omega) (by simp [ahP, y1, y2])
  · rw [decide_eq_false hkj]
    unfold ahB
    rw [seqL_take, List.any_eq_false]
    intro e he hp
    obtain ⟨z, hz, hez⟩ := seqL_mem he
    obtain ⟨i, hi⟩ := List.mem_iff_getElem?.1 hz
    have hi2 := (List.getElem?_eq_some_iff.1 hi).1
    rw [List.length_take] at hi2
    rw [List.getElem?_take_of_lt (by omega)] at hi
    have hs2 := h.ser i z hi
    have he2 : e.serial = z.serial := by rcases hez with rfl | rfl <;> rfl
    simp only [ahP, Bool.and_eq_true, decide_eq_true_eq] at hp
    omega
theorem seq_bef {ys : List Ev} (h : SeqOk ys) {i k : Nat} {x y : Ev} (hi : ys[i]? = some x) (hk : ys[k]? = some y) : beforeB (seqL ys) x.serial y.serial = decide (i < k) := by
  have q := seq_of ys h
  rw [h.ser i x hi, h.ser k y hk]
  have h1 := (List.getElem?_eq_some_iff.1 hi).1
  have h2 := (List.getElem?_eq_some_iff.1 hk).1
  rcases Nat.lt_trichotomy i k with h3 | h3 | h3
  · rw [decide_eq_true h3]; exact q.bef i k h3 h2
  · rw [decide_eq_false (by omega), h3]; exact before_irr q.right _
  · rw [decide_eq_false (by omega)]; exact before_asym q.right (q.bef k i h3 h1)
theorem seq_pt_no {ys : List Ev} {y : Ev} (hy : flB y = false) : ptE (seqL (ys ++ [y])) (seqL (ys ++ [y])).length = ptE (seqL ys) (seqL ys).length := by
  rw [seqL_snoc, pt_more hy, pt_more (by rfl)]
theorem seq_pt_yes {ys : List Ev} {y : Ev} (hy : flB y = true) : ptE (seqL (ys ++ [y])) (seqL (ys ++ [y])).length = 2 * ys.length := by
  have h1 : (seqL ys ++ [invEv y] ++ [y])[(seqL ys ++ [invEv y]).length]? = some y := by rw [List.getElem?_append_right (Nat.le_refl _), Nat.sub_self]; rfl
  have h2 : (seqL ys ++ [invEv y])[(seqL ys).length]? = some (invEv y) := by rw [List.getElem?_append_right (Nat.le_refl _), Nat.sub_self]; rfl
  have hl : (seqL ys ++ [invEv y] ++ [y]).length = (seqL ys ++ [invEv y]).length + 1 := List.length_append.trans rfl
  have hl2 : (seqL ys ++ [invEv y]).length = (seqL ys).length + 1 := List.length_append.trans rfl
  rw [seqL_snoc, hl, (pt_next h1).1 hy, pt_snoc _ (Nat.le_refl _), pt_more (by rfl), in_snoc _ (Nat.le_refl _), hl2,
    (in_next h2).1 (by show (!false && decide (y.serial = y.serial)) = true; simp)]
  have h3 := in_le (seqL ys ++ [invEv y]) y.serial (seqL ys).length
  have h4 := pt_le (seqL ys) (seqL ys).length
  have h5 := seqL_len ys
  omega
/-- what is allowed of a block if the last flush is at an index -/
def AllQ (ys : List Ev) (j : Nat) (b : Int) (v : ByteArray) : Prop :=
  (∃ (k : Nat) (y : Ev), ys[k]? = some y ∧ chB b y = true ∧ v = valB y ∧ ∀ (i : Nat) (x : Ev), k < i → i < j → ys[i]? = some x → chB b x = false) ∨
  ((∀ (i : Nat) (x : Ev), i < j → ys[i]? = some x → chB b x = false) ∧ v = zeroC)
theorem seq_allow {ys : List Ev} (h : SeqOk ys) {j : Nat} (hj : ptE (seqL ys) (seqL ys).length = 2 * j) (b : Int) (v : ByteArray) : AllowP (seqL ys) b zeroC v ↔ AllQ ys j b v := by
  have q := seq_of ys h
  have hc : ∀ y ∈ ys, candB b y = chB b y := fun y hy => by
    obtain ⟨_, y2, _⟩ := h.one y hy
    simp [candB, y2]
  unfold AllowP AllQ
  rw [q.ops, hj]
  constructor
  · rintro (⟨x, hx, h1, h2, rfl⟩ | ⟨h1, rfl⟩)
    · left
      obtain ⟨k, hk⟩ := List.mem_iff_getElem?.1 hx
      rw [hc x hx] at h1
      refine ⟨k, x, hk, h1, rfl, fun i y hi hij hy => ?_⟩
      cases hb : chB b y with
      | false => rfl
      | true =>
        have := h2 y (List.mem_of_getElem? hy) hb (by rw [seq_ah h hy]; exact decide_eq_true hij)
        rw [seq_bef h hk hy] at this
        exact absurd hi (of_decide_eq_false this)
    · right
      refine ⟨fun i x hi hx => ?_, rfl⟩
      cases hb : chB b x with
      | false => rfl
      | true =>
        have hm := List.mem_of_getElem? hx
        have := h1 x hm (by rw [hc x hm]; exact hb)
        rw [seq_ah h hx] at this
        exact absurd hi (of_decide_eq_false this)
  · rintro (⟨k, x, hk, h1, rfl, h2⟩ | ⟨h1, rfl⟩)
    · left
      have hm := List.mem_of_getElem? hk
      refine ⟨x, hm, by rw [hc x hm]; exact h1, fun y hy hb ha => ?_, rfl⟩
      obtain ⟨i, hi⟩ := List.mem_iff_getElem?.1 hy
      rw [seq_ah h hi] at ha
      rw [seq_bef h hk hi]
      refine decide_eq_false fun hki => ?_
      rw [h2 i y hki (of_decide_eq_true ha) hi] at hb
      cases hb
    · right
      refine ⟨fun x hx hb => ?_, rfl⟩
      obtain ⟨i, hi⟩ := List.mem_iff_getElem?.1 hx
      rw [seq_ah h hi]
      refine decide_eq_false fun hij => ?_
      rw [hc x hx, h1 i x hij hi] at hb
      cases hb
/-- how far the walk of the law is: the operations, and for a block what is allowed of it and what it is -/
structure SeqB (ys : List Ev) (b : Int) (A : List ByteArray) (v : ByteArray) : Prop where
  all : ∃ j, ptE (seqL ys) (seqL ys).length = 2 * j ∧ j ≤ ys.length ∧ ∀ x, AllQ ys j b x ↔ x ∈ A
  now : ∀ x, AllQ ys ys.length b x ↔ x = v
theorem SeqB.start (b : Int) : SeqB [] b [zeroC] zeroC := by
  have h : ∀ x, AllQ [] 0 b x ↔ x = zeroC := fun x => by
    unfold AllQ
    constructor
    · rintro (⟨k, y, h, _⟩ | ⟨_, h⟩)
      · cases h
      · exact h
    · rintro rfl
      exact .inr ⟨fun i x hi _ => absurd hi (Nat.not_lt_zero _), rfl⟩
  exact ⟨⟨0, rfl, Nat.le_refl _, fun x => by rw [h x, List.mem_singleton]⟩, h⟩
theorem get_snoc {ys : List Ev} {y x : Ev} {i : Nat} : (ys ++ [y])[i]? = some x ↔ ys[i]? = some x ∨ (i = ys.length ∧ x = y) := by
  by_cases hi : i < ys.length
  · rw [List.getElem?_append_left hi]
    constructor
    · exact .inl
    · rintro (h | ⟨h, _⟩)
      · exact h
      · omega
  · have h0 : ys[i]? = none := List.getElem?_eq_none (by omega)
    rw [List.getElem?_append_right (by omega), h0]
    by_cases h1 : i = ys.length
    · rw [h1, Nat.sub_self]
      constructor
      · intro h; exact .inr ⟨rfl, (Option.some.inj (show some y = some x from h)).symm⟩
      · rintro (h | ⟨_, h⟩)
        · cases h
        · rw [h]; rfl
    · have : [y][i - ys.length]? = none := List.getElem?_eq_none (by simp; omega)
      rw [this]
      constructor
      · intro h; cases h
      · rintro (h | ⟨h, _⟩)
        · cases h
        · exact absurd h h1
/-- one operation more, none of the block's -/
theorem all_other {ys : List Ev} {y : Ev} {b : Int} {j : Nat} (hy : chB b y = false) (x : ByteArray) : AllQ (ys ++ [y]) j b x ↔ AllQ ys j b x := by
  unfold AllQ
  constructor
  · rintro (⟨k, z, hk, h1, h2, h3⟩ | ⟨h1, h2⟩)
    · left
      rcases get_snoc.1 hk with hk | ⟨_, rfl⟩
      · exact ⟨k, z, hk, h1, h2, fun i w hi hij hw => h3 i w hi hij (get_snoc.2 (.inl hw))⟩
      · rw [hy] at h1; cases h1
    · exact .inr ⟨fun i w hi hw => h1 i w hi (get_snoc.2 (.inl hw)), h2⟩
  · rintro (⟨k, z, hk, h1, h2, h3⟩ | ⟨h1, h2⟩)
    · refine .inl ⟨k, z, get_snoc.2 (.inl hk), h1, h2, fun i w hi hij hw => ?_⟩
      rcases get_snoc.1 hw with hw | ⟨_, rfl⟩
      · exact h3 i w hi hij hw
      · exact hy
    · refine .inr ⟨fun i w hi hw => ?_, h2⟩
      rcases get_snoc.1 hw with hw | ⟨_, rfl⟩
      · exact h1 i w hi hw
      · exact hy
theorem all_far {ys : List Ev} {b : Int} {j : Nat} (hj : ys.length ≤ j) (x : ByteArray) : AllQ ys j b x ↔ AllQ ys ys.length b x := by
  unfold AllQ
  constructor
  · rintro (⟨k, z, hk, h1, h2, h3⟩ | ⟨h1, h2⟩)
    · exact .inl ⟨k, z, hk, h1, h2, fun i w hi hij hw => h3 i w hi (by omega) hw⟩
    · exact .inr ⟨fun i w hi hw => h1 i w (by omega) hw, h2⟩
  · rintro (⟨k, z, hk, h1, h2, h3⟩ | ⟨h1, h2⟩)
    · exact .inl ⟨k, z, hk, h1, h2, fun i w hi hij hw => h3 i w hi (List.getElem?_eq_some_iff.1 hw).1 hw⟩
    · exact .inr ⟨fun i w hi hw => h1 i w (List.getElem?_eq_some_iff.1 hw).1 hw, h2⟩
/-- a change of the block -/
theorem SeqB.change {ys : List Ev} {b : Int} {A : List ByteArray} {v : ByteArray} {y : Ev} (h : SeqB ys b A v) (hy : chB b y = true) (hf : flB y = false) : SeqB (ys ++ [y]) b (A ++ [valB y]) (valB y) := by
  obtain ⟨j, h1, h2, h3⟩ := h.all
  refine ⟨⟨j, by rw [seq_pt_no hf, h1], by rw [List.length_append]; omega, fun x => ?_⟩, fun x => ?_⟩
  · rw [List.mem_append, ← h3 x, List.mem_singleton]
    unfold AllQ
    constructor
    · rintro (⟨k, z, hk, k1, k2, k3⟩ | ⟨k1, k2⟩)
      · rcases get_snoc.1 hk with hk | ⟨_, rfl⟩
        · exact .inl (.inl ⟨k, z, hk, k1, k2, fun i w hi hij hw => k3 i w hi hij (get_snoc.2 (.inl hw))⟩)
        · exact .inr k2
      · exact .inl (.inr ⟨fun i w hi hw => k1 i w hi (get_snoc.2 (.inl hw)), k2⟩)
    · rintro ((⟨k, z, hk, k1, k2, k3⟩ | ⟨k1, k2⟩) | rfl)
      · refine .inl ⟨k, z, get_snoc.2 (.inl hk), k1, k2, fun i w hi hij hw => ?_⟩
        rcases get_snoc.1 hw with hw | ⟨rfl, _⟩
        · exact k3 i w hi hij hw
        · omega
      · refine .inr ⟨fun i w hi hw => ?_, k2⟩
        rcases get_snoc.1 hw with hw | ⟨rfl, _⟩
        · exact k1 i w hi hw
        · omega
      · refine .inl ⟨ys.length, y, get_snoc.2 (.inr ⟨rfl, rfl⟩), hy, rfl, fun i w hi hij hw => ?_⟩
        omega
  · unfold AllQ
    rw [List.length_append, List.length_singleton]
    constructor
    · rintro (⟨k, z, hk, k1, k2, k3⟩ | ⟨k1, k2⟩)
      · rcases get_snoc.1 hk with hk | ⟨_, rfl⟩
        · have := k3 ys.length y (List.getElem?_eq_some_iff.1 hk).1 (by omega) (get_snoc.2 (.inr ⟨rfl, rfl⟩))
          rw [hy] at this; cases this
        · exact k2
      · have := k1 ys.length y (by omega) (get_snoc.2 (.inr ⟨rfl, rfl⟩))
        rw [hy] at this; cases this
    · rintro rfl
      exact .inl ⟨ys.length, y, get_snoc.2 (.inr ⟨rfl, rfl⟩), hy, rfl, fun i w hi hij hw => by omega⟩
/-- neither a change of the block nor a flush -/
theorem SeqB.other {ys : List Ev} {b : Int} {A : List ByteArray} {v : ByteArray} {y : Ev} (h : SeqB ys b A v) (hy : chB b y = false) (hf : flB y = false) : SeqB (ys ++ [y]) b A v := by
  obtain ⟨j, h1, h2, h3⟩ := h.all
  refine ⟨⟨j, by rw [seq_pt_no hf, h1], by rw [List.length_append]; omega, fun x => by rw [all_other hy, h3]⟩, fun x => ?_⟩
  rw [all_other hy, all_far (by rw [List.length_append]; omega), h.now]
/-- a flush -/
theorem SeqB.flush {ys : List Ev} {b : Int} {A : List ByteArray} {v : ByteArray} {y : Ev} (h : SeqB ys b A v) (hy : chB b y = false) (hf : flB y = true) : SeqB (ys ++ [y]) b [v] v := by
  refine ⟨⟨ys.length, seq_pt_yes hf, by rw [List.length_append]; omega, fun x => by rw [all_other hy, h.now, List.mem_singleton]⟩, fun x => ?_⟩
  rw [all_other hy, all_far (by rw [List.length_append]; omega), h.now]
theorem SeqB.is {ys : List Ev} {b : Nat} {A B : List ByteArray} {v : ByteArray} (h : SeqB ys (b : Int) A v) (ho : SeqOk ys) (hs : sizesE B (seqL ys) = 0) (hB : B[b]? = some zeroC) : ∀ x, x ∈ allowE B (seqL ys) (b : Int) ↔ x ∈ A := by
  obtain ⟨j, h1, _, h3⟩ := h.all
  intro x
  rw [(allow_iff hs hB).2 x, seq_allow ho h1, h3]
theorem seq2_sizes {ys : List Ev} (h : SeqOk ys) (hn : ys.length ≤ 20) : checkE 2 (seqL ys) = 0 ∧ sizesE [zeroC, zeroC] (seqL ys) = 0 := by
  have hc : checkE 2 (seqL ys) = 0 := by
    unfold checkE
    rw [if_neg (by omega), if_neg (by rw [seqL_len]; omega), if_pos ((rights_iff _).2 (seq_of ys h).right)]
  refine ⟨hc, sizes_good hc fun i s hi hs => ?_⟩
  rcases i with _ | _ | i
  · obtain rfl := Option.some.inj (show some zeroC = some s from hs); rfl
  · obtain rfl := Option.some.inj (show some zeroC = some s from hs); rfl
  · simp at hs
end Go.Proofs.Ytnmhnjjehglcfaa.DurMath

/- A list that is written out, as one of the walk's own. -/
namespace Go.Proofs.Ytnmhnjjehglcfaa.Env
open Go.RowKit Plan Ents Rws
section
variable {w W : World} {T : List Thing} {α : Type} {R : Row α}
theorem Env.lit (hR : R.Ok) (K : Env w W T) (L : List α) (n : Nat) (hl : L.length = n) (hn : n ≤ maxLen) : Env w (W.alloc (.cells (R.all L).toArray R.et)) (lst R (slv W.heap.size n n) n L :: T) :=
  K.cons ((Below.refl _ _).alloc (Nat.le_refl _) _) (show Thing.holds w.heap.size (W.alloc (.cells (R.all L).toArray R.et)) (lst R (slv W.heap.size n n) n L) from by
    have := World.ownsRow_lit (base := w.heap.size) (e := R.et) (size := R.sz) W (R.all L).toArray n K.hb.size hn (by rw [List.size_toArray, all_length hR, hl])
    exact this) (fun g hg => by obtain rfl := Option.some.inj hg; exact Nat.le_refl _)
end
end Go.Proofs.Ytnmhnjjehglcfaa.Env

/- The append of a list that lies in memory to any list of the walk's own, also one without a block. -/
namespace Go.Proofs.Ytnmhnjjehglcfaa.Env
open Go.RowKit Plan Ents Rws
section
variable {w W W' : World} {T : List Thing} {α : Type} {R : Row α}
theorem Env.app_some (hR : R.Ok) {o : Oper} {a : Act} {K' : Act → World → Prop} {Q : Exit → Act → World → Prop} (s x : Operand)
    (ho : o.op = .call { callee := .builtin .append, args := #[s, x], argTypes := #[R.st, R.st] }) (K : Env w W T) (i : Nat) {v : Value} {m0 : Nat} {M : List α} (hi : T[i]? = some (lst R v m0 M))
    (hs : a.eval s = v) {F : Nat → Prop} {ad : Addr} {m c : Nat} {L : List α} (hx : a.eval x = .slice (some ad) m c) (hl : TList R W F (some ad) m c L) (hm0 : 0 < m) (hm : m0 + m ≤ 1000000)
    (h : ∀ g' c' W', Env w W' (T.set i (lst R (slv g' (m0 + m) c') (m0 + m) (M ++ L))) → (∀ F, Keep w F W T W' (T.set i (lst R (slv g' (m0 + m) c') (m0 + m) (M ++ L)))) → K' (a.put o.dst (slv g' (m0 + m) c')) W') : o.wp Try.prog a W K' Q := by
  have hown := K.own i hi
  obtain ⟨i1, hi1, hy0, hy1, hy2⟩ := info_parts hR.info
  have hm2 : (m0 + m) * R.wide ≤ 140737488355328 := Nat.le_trans (Nat.mul_le_mul hm hR.small) (by decide)
  obtain ⟨v', w', hr, h2, h3, h4, h5⟩ := run_append_own_at (P := Try.prog) W w.heap.size R.st o.type R.et i1 _ R.sz R.wide hR.und hi1 hy0 hy1 hy2 hR.zs hR.pos _ m0 (R.all M) hown ad m c (R.all L) (by rw [all_length hR, hl.length]) hl.news (all_flat hR L) (by unfold maxLen; omega) hm2 K.hb.size
  have hv : ∃ g' c', v' = slv g' (m0 + m) c' := by
    rcases h2.2 with h9 | ⟨g', c', _, e, _⟩
    · have h8 := h9.2
      omega
    · exact ⟨g', c', e⟩
  obtain ⟨g', c', rfl⟩ := hv
  rw [← all_append] at h2
  unfold Oper.wp execOp
  simp only [ho, resolve, invoke, builtin, Sem.run_bind, Sem.run_pure, Result.andThen_ok, List.map_toArray, List.map_cons, List.map_nil, hs, hx, hr]
  have hn : ∀ g9, (lst R (slv g' (m0 + m) c') (m0 + m) (M ++ L)).has g9 → (lst R v m0 M).has g9 ∨ W.heap.size ≤ g9 := fun g9 e => by
    rcases h5 with h5 | h5
    · exact .inl (h5.symm.trans e)
    · right
      have := h5.symm.trans e
      have := Option.some.inj this
      omega
  exact h g' c' w' (K.set h3 i hi (fun g9 e => e) h2 hn) (fun F => K.keep_set h3 i hi (fun g9 e => e) hn)
end
end Go.Proofs.Ytnmhnjjehglcfaa.Env

/- A region that leaves its order open, walked by a plan in which up to three operations may come up at one time. Every law holds for any program. -/
namespace Go.Proofs.Ytnmhnjjehglcfaa.Tree3
open Go.RowKit
inductive T (α : Type) where
  | done
  | take (k : α) (r : T α)
  | only (k : α) (r : T α)
  | fork (k : α) (r : T α) (l : α) (s : T α)
  | fork3 (k : α) (r : T α) (l : α) (s : T α) (m : α) (t : T α)
def T.map {α β : Type} (f : α → β) : T α → T β
  | .done => .done
  | .take k r => .take (f k) (r.map f)
  | .only k r => .only (f k) (r.map f)
  | .fork k r l s => .fork (f k) (r.map f) (f l) (s.map f)
  | .fork3 k r l s m t => .fork3 (f k) (r.map f) (f l) (s.map f) (f m) (t.map f)
def T.size {α : Type} : T α → Nat
  | .done => 0
  | .take _ r => r.size + 1
  | .only _ r => r.size + 1
  | .fork _ r _ _ => r.size + 1
  | .fork3 _ r _ _ _ _ => r.size + 1
def good (md : Region.Mode) (ops : Array Oper) : T Nat → Array Bool → Bool
  | .done, listed => (Region.ready md ops listed).isEmpty
  | .take k r, listed => (Region.ready md ops listed).contains k && Region.free md ops listed k && good md ops r (listed.setIfInBounds k true)
  | .only k r, listed => (Region.ready md ops listed == [k]) && good md ops r (listed.setIfInBounds k true)
  | .fork k r l s, listed => (Region.ready md ops listed == [k, l]) && (r.size == s.size) && good md ops r (listed.setIfInBounds k true) && good md ops s (listed.setIfInBounds l true)
  | .fork3 k r l s m t, listed => (Region.ready md ops listed == [k, l, m]) && (r.size == s.size) && (r.size == t.size) && good md ops r (listed.setIfInBounds k true) && good md ops s (listed.setIfInBounds l true) && good md ops t (listed.setIfInBounds m true)
/-- what one operation has to lead to -/
def Goes1 (P : Program) (ops : Array Oper) (Q : Exit → Act → World → Prop) (S : World → Prop) (o : Oper) (G : Act → World → Prop) (a : Act) (w : World) : Prop :=
  ∃ R : Act → World → Prop, (∀ a' w', R a' w' → S w' ∧ G a' w') ∧ (if Region.wanted o (yielded ops a.tmps) then o.wp P a w R Q else R (a.put o.dst undef) w)
def goes (P : Program) (ops : Array Oper) (Q : Exit → Act → World → Prop) (S : World → Prop) : T (Option Oper) → Act → World → Prop
  | .done, a, w => Q .normal a w
  | .take none _, _, _ => False
  | .take (some o) r, a, w => ∃ v, YieldsIf P ops S o v a ∧ goes P ops Q S r (a.put o.dst v) w
  | .only none _, _, _ => False
  | .only (some o) r, a, w => Goes1 P ops Q S o (goes P ops Q S r) a w
  | .fork none _ _ _, _, _ => False
  | .fork _ _ none _, _, _ => False
  | .fork (some o) r (some p) s, a, w => Goes1 P ops Q S o (goes P ops Q S r) a w ∧ Goes1 P ops Q S p (goes P ops Q S s) a w
  | .fork3 none _ _ _ _ _, _, _ => False
  | .fork3 _ _ none _ _ _, _, _ => False
  | .fork3 _ _ _ _ none _, _, _ => False
  | .fork3 (some o) r (some p) s (some q) t, a, w => Goes1 P ops Q S o (goes P ops Q S r) a w ∧ Goes1 P ops Q S p (goes P ops Q S s) a w ∧ Goes1 P ops Q S q (goes P ops Q S t) a w
section
variable {P : Program} {ops : Array Oper} {Q : Exit → Act → World → Prop} {S : World → Prop}
theorem held_of_goes (hs : Region.noSelect ops = true) (hQ : ∀ c a d v w, Q (.panic c) (Act.put a d v) w → Q (.panic c) a w) :
    ∀ (plan : T Nat) (listed : Array Bool) (a : Act) (w : World), good .any ops plan listed = true → S w →
      goes P ops Q S (plan.map fun p => ops[p]?) a w → wpAnyH P .any ops Q S plan.size listed a w
  | .done, listed, a, w, hB, _, h => by
    refine wpAnyH_done ?_ h 0
    simpa [good] using hB
  | .take k r, listed, a, w, hB, hS, h => by
    simp only [good, Bool.and_eq_true] at hB
    simp only [T.map] at h
    cases ho : ops[k]? with
    | none => rw [ho] at h; exact h.elim
    | some o =>
      rw [ho] at h
      obtain ⟨v, hy, hr⟩ := h
      exact wpAnyH_take ho hs hB.1.2 hB.1.1 (fun c a w => hQ c a o.dst v w) hy hS (held_of_goes hs hQ r _ _ _ hB.2 hS hr)
  | .only k r, listed, a, w, hB, hS, h => by
    simp only [good, Bool.and_eq_true, beq_iff_eq] at hB
    simp only [T.map] at h
    refine wpAnyH_all hB.1 (by simp) fun i hi => ?_
    have hik : i = k := by simpa using hi
    subst hik
    cases ho : ops[i]? with
    | none => rw [ho] at h; exact h.elim
    | some o =>
      rw [ho] at h
      exact Tree.one ho h fun a' w' hS' hg => held_of_goes hs hQ r _ _ _ hB.2 hS' hg
  | .fork k r l s, listed, a, w, hB, hS, h => by
    simp only [good, Bool.and_eq_true, beq_iff_eq] at hB
    simp only [T.map] at h
    refine wpAnyH_all hB.1.1.1 (by simp) fun i hi => ?_
    cases ho : ops[k]? with
    | none => rw [ho] at h; exact h.elim
    | some o =>
      cases hp : ops[l]? with
      | none => rw [ho, hp] at h; exact h.elim
      | some p =>
        rw [ho, hp] at h
        have hik : i = k ∨ i = l := by simpa using hi
        rcases hik with rfl | rfl
        · exact Tree.one ho h.1 fun a' w' hS' hg => held_of_goes hs hQ r _ _ _ hB.1.2 hS' hg
        · have := Tree.one (n := s.size) (listed := listed) hp h.2 fun a' w' hS' hg => held_of_goes hs hQ s _ _ _ hB.2 hS' hg
          rw [← hB.1.1.2] at this
          exact this
  | .fork3 k r l s m t, listed, a, w, hB, hS, h => by
    simp only [good, Bool.and_eq_true, beq_iff_eq] at hB
    simp only [T.map] at h
    refine wpAnyH_all hB.1.1.1.1.1 (by simp) fun i hi => ?_
    cases ho : ops[k]? with
    | none => rw [ho] at h; exact h.elim
    | some o =>
      cases hp : ops[l]? with
      | none => rw [ho, hp] at h; exact h.elim
      | some p =>
        cases hq : ops[m]? with
        | none => rw [ho, hp, hq] at h; exact h.elim
        | some q =>
          rw [ho, hp, hq] at h
          have hik : i = k ∨ i = l ∨ i = m := by simpa using hi
          rcases hik with rfl | rfl | rfl
          · exact Tree.one ho h.1 fun a' w' hS' hg => held_of_goes hs hQ r _ _ _ hB.1.1.2 hS' hg
          · have := Tree.one (n := s.size) (listed := listed) hp h.2.1 fun a' w' hS' hg => held_of_goes hs hQ s _ _ _ hB.1.2 hS' hg
            rw [← hB.1.1.1.1.2] at this
            exact this
          · have := Tree.one (n := t.size) (listed := listed) hq h.2.2 fun a' w' hS' hg => held_of_goes hs hQ t _ _ _ hB.2 hS' hg
            rw [← hB.1.1.1.2] at this
            exact this
/-- THE BEGINNING: S is what the region keeps to. -/
theorem start {id : Nat} {a : Act} {w : World} (S : World → Prop) (plan : T Nat) (hm : P.follows .mixedOrders = true) (hs : Region.noSelect ops = true) (hl : plan.size = ops.size)
    (hB : good .any ops plan (Array.replicate ops.size false) = true) (hS : S w.drew)
    (h : goes P ops (NoPanic Q) S (plan.map fun p => ops[p]?) a w.drew) : (Code.region id ops true).wp P Q a w :=
  wp_region_noPanic (wp_region_held hm (by
    have := held_of_goes (P := P) (Q := NoPanic Q) (S := S) hs (fun _ _ _ _ _ h => h) plan (Array.replicate ops.size false) a w.drew hB hS h
    rw [hl] at this
    exact this))
/-- THE END. -/
theorem ends {Q : Exit → Act → World → Prop} {a : Act} {w : World} (h : Q .normal a w) : goes P ops (NoPanic Q) S .done a w := h
theorem take {o : Oper} {r : T (Option Oper)} {a : Act} {w : World} (v : Value) (hw : Region.wanted o (yielded ops a.tmps) = true) (hv : ∀ w, S w → (execOp a.eval o).run P w = .ok (.value v) w)
    (h : goes P ops Q S r (a.put o.dst v) w) : goes P ops Q S (.take (some o) r) a w := ⟨v, .inl ⟨hw, hv⟩, h⟩
theorem carryR {o : Oper} {r : T (Option Oper)} {a : Act} {w : World} (hw : Region.wanted o (yielded ops a.tmps) = true)
    (h : o.wp P a w (fun a' w' => S w' ∧ goes P ops Q S r a' w') Q) : Goes1 P ops Q S o (goes P ops Q S r) a w :=
  ⟨fun a' w' => S w' ∧ goes P ops Q S r a' w', fun _ _ h => h, by rw [if_pos hw]; exact h⟩
theorem only {o : Oper} {r : T (Option Oper)} {a : Act} {w : World} (hw : Region.wanted o (yielded ops a.tmps) = true)
    (h : o.wp P a w (fun a' w' => S w' ∧ goes P ops Q S r a' w') Q) : goes P ops Q S (.only (some o) r) a w := carryR hw h
theorem fork {o p : Oper} {r s : T (Option Oper)} {a : Act} {w : World} (hw : Region.wanted o (yielded ops a.tmps) = true) (hv : Region.wanted p (yielded ops a.tmps) = true)
    (h : o.wp P a w (fun a' w' => S w' ∧ goes P ops Q S r a' w') Q) (k : p.wp P a w (fun a' w' => S w' ∧ goes P ops Q S s a' w') Q) : goes P ops Q S (.fork (some o) r (some p) s) a w := ⟨carryR hw h, carryR hv k⟩
theorem fork3 {o p q : Oper} {r s t : T (Option Oper)} {a : Act} {w : World} (hw : Region.wanted o (yielded ops a.tmps) = true) (hv : Region.wanted p (yielded ops a.tmps) = true) (hu : Region.wanted q (yielded ops a.tmps) = true)
    (h : o.wp P a w (fun a' w' => S w' ∧ goes P ops Q S r a' w') Q) (k : p.wp P a w (fun a' w' => S w' ∧ goes P ops Q S s a' w') Q) (l : q.wp P a w (fun a' w' => S w' ∧ goes P ops Q S t a' w') Q) : goes P ops Q S (.fork3 (some o) r (some p) s (some q) t) a w := ⟨carryR hw h, carryR hv k, carryR hu l⟩
end
end Go.Proofs.Ytnmhnjjehglcfaa.Tree3

/- The walk of the law DurableSequential. -/
namespace Go.Proofs.Ytnmhnjjehglcfaa.Ents
open Go.RowKit Plan HisMath LinMath DurMath ModMath CmdMath Rws Env LayMath
theorem arr_info : (Try.prog.info? 31).map (·.size) = some 2 := by kernel_rfl
theorem now_info : (Try.prog.info? 32).map (·.size) = some 2 := by kernel_rfl
theorem seq_strs1 : (Try.prog.info? 22).map (·.size) = some 1 := by kernel_rfl
theorem al_size (w : World) (o : Obj) : (w.alloc o).heap.size = w.heap.size + 1 := by unfold World.alloc; exact Array.size_push _
theorem storesRow {w W : World} {T : List Thing} {ops : Array Oper} {rest : List Oper} {o : Oper} {a : Act} {Q : Exit → Act → World → Prop} (hgd : o.guard = none) (K : Env w W T) (i : Nat) {g : Nat} {cs : Array Value} {t : TypeId} (hi : T[i]? = some (.box g (.cells cs t (0, 0)))) (ty : TypeId) (x y : Operand) (hop : o.op = .store ty x y)
    (cs' : Array Value) (hx : a.eval x = .pointer (some ⟨g, 0, none⟩)) (hy : a.eval y = .agg cs') (hinf : (Try.prog.info? ty).map (·.size) = some cs'.size) (hold : cs.size = cs'.size) (h1 : cs'.all (·.oneCell') = true)
    (h : ∀ W', Env w W' (T.set i (.box g (.cells cs' t (0, 0)))) → (∀ F, Keep w F W T W' (T.set i (.box g (.cells cs' t (0, 0))))) → wpList Try.prog ops Q rest (a.put o.dst undef) W') : wpList Try.prog ops Q (o :: rest) a W :=
  wpList_plain hgd fun _ hK => K.storeRow i hi ty x y hop cs' hx hy hinf hold h1 fun W' h1 k1 => hK _ _ (h W' h1 k1)
theorem two_cells {W : World} {g : Nat} {u v : Value} {t : TypeId} (h : W.heap[g]? = some (.cells #[u, v] t (0, 0))) : W.cell? ⟨g, 0, none⟩ = some u ∧ W.cell? ⟨g, 1, none⟩ = some v := by
  constructor <;> (rw [cell_of_row W g _ _ _ _ h]; rfl)
/-- a list that is only read, as a thing of the walk -/
def zF (za : Option Addr) : Nat → Prop := fun b => ∃ x, za = some x ∧ b = x.block
def zT (za : Option Addr) (zc : Nat) (Z : List ByteArray) : Thing := .any (zF za) (fun W => SList W (zF za) za Z.length zc Z)
section
variable {w W W' : World} {T : List Thing} {za : Option Addr} {zc : Nat} {Z : List ByteArray}
theorem zT_start (K : Env w W T) (hb : Below W.heap.size W W') {G : Nat → Prop} (h : SList W' G za Z.length zc Z) (h0 : 0 < Z.length) (hG : ∀ b, G b → W.heap.size ≤ b) : Env w W' (zT za zc Z :: T) := by
  obtain ⟨x, rfl, hx, hf, _⟩ := h.some' h0
  have hl : SList W' (zF (some x)) (some x) Z.length zc Z := by
    rcases h with ⟨_, h1, _, _⟩ | ⟨y, hy, h2, h3, h4, h5, h6, h7⟩
    · omega
    · exact .inr ⟨y, hy, h2, h3, h4, h5, ⟨y, hy, rfl⟩, h7⟩
  have hlo : ∀ b, zF (some x) b → W.heap.size ≤ b ∧ b < W'.heap.size := fun b ⟨y, hy, hb⟩ => by
    obtain rfl := Option.some.inj hy
    subst hb
    exact ⟨hG _ hf, hx⟩
  refine K.cons hb ⟨hl, fun b hb => ⟨Nat.le_trans K.hb.size (hlo b hb).1, (hlo b hb).2⟩, fun W1 W2 h hs hk => h.on ⟨hs, fun b hb _ => hk b hb⟩⟩ fun b hb => (hlo b hb).1
theorem zT_list (K : Env w W T) (i : Nat) (h : T[i]? = some (zT za zc Z)) : SList W (zF za) za Z.length zc Z := (K.at' i h).1
end
theorem zT_two {w W : World} {T : List Thing} {x : Addr} {zc : Nat} {u v : ByteArray} (K : Env w W T) (i : Nat) (h : T[i]? = some (zT (some x) zc [u, v])) : W.cell? x = some (.string u) ∧ W.cell? ⟨x.block, x.off + 1, none⟩ = some (.string v) := by
  have hl := zT_list K i h
  constructor
  · obtain ⟨x', s', h1, h2, h3⟩ := str_at hl 0 (by simp)
    obtain rfl := Option.some.inj h1
    obtain rfl : u = s' := Option.some.inj h2
    rwa [show x.add 0 = x from by simp [Addr.add]] at h3
  · obtain ⟨x', s', h1, h2, h3⟩ := str_at hl 1 (by simp)
    obtain rfl := Option.some.inj h1
    obtain rfl : v = s' := Option.some.inj h2
    exact h3
theorem two_zeros (w : World) : Calls Try.prog 10 #[.int .i64 2] w fun r w' => ∃ x c, r = .returned (.slice (some x) 2 c) ∧ SList w' (fun b => w.heap.size ≤ b) (some x) 2 c [zeroC, zeroC] ∧ Below w.heap.size w w' :=
  (refBNew_any 2 w).mono fun r w' h => by
    obtain ⟨a, n, c, rfl, hl, hb⟩ := h
    have e : newB 2 = [zeroC, zeroC] := rfl
    rw [e] at hl
    obtain rfl : 2 = n := hl.length
    obtain ⟨x, hx, _⟩ := hl.some' (by decide)
    subst hx
    exact ⟨x, c, rfl, hl.mono fun b _ h => h.resolve_left id, hb⟩
theorem flush_ch {y b : Nat} {s : Int} {sv : ByteArray} (h : y = 2) (c : Int) : chB c (⟨true, 0, s, 2 + (y : Int), (b : Int), sv, 0, ⟨#[]⟩⟩ : Ev) = false ∧ flB (⟨true, 0, s, 2 + (y : Int), (b : Int), sv, 0, ⟨#[]⟩⟩ : Ev) = true := by
  subst h
  simp [chB, chK, flB]
theorem change_ch {y b : Nat} {s : Int} {sv : ByteArray} (h : y ≤ 1) (c : Nat) : chB (c : Int) (⟨true, 0, s, 2 + (y : Int), (b : Int), sv, 0, ⟨#[]⟩⟩ : Ev) = decide (b = c) ∧ flB (⟨true, 0, s, 2 + (y : Int), (b : Int), sv, 0, ⟨#[]⟩⟩ : Ev) = false := by
  have : y = 0 ∨ y = 1 := by omega
  rcases this with rfl | rfl <;> simp [chB, chK, flB, Int.natCast_inj]
theorem val_w {y b : Nat} {s : Int} {sv : ByteArray} (h : y < 1) : valB (⟨true, 0, s, 2 + (y : Int), (b : Int), sv, 0, ⟨#[]⟩⟩ : Ev) = sv := by
  obtain rfl : y = 0 := by omega
  rfl
theorem val_t {y b : Nat} {s : Int} {sv : ByteArray} (h : y ≤ 1 ∧ 1 ≤ y) : valB (⟨true, 0, s, 2 + (y : Int), (b : Int), sv, 0, ⟨#[]⟩⟩ : Ev) = zeroC := by
  obtain rfl : y = 1 := by omega
  rfl
theorem seqOk_more {ys : List Ev} {i y b : Nat} {sv : ByteArray} (h : SeqOk ys) (hn : ys.length = i) (hy : y ≤ 2) : SeqOk (ys ++ [(⟨true, 0, (i : Int), 2 + (y : Int), (b : Int), sv, 0, ⟨#[]⟩⟩ : Ev)]) := by
  refine ⟨fun j z hz => ?_, fun z hz => ?_⟩
  · rcases get_snoc.1 hz with h1 | ⟨h1, rfl⟩
    · exact h.ser j z h1
    · subst h1; subst hn; rfl
  · rcases List.mem_append.1 hz with h1 | h1
    · exact h.one z h1
    · rw [List.mem_singleton.1 h1]
      refine ⟨rfl, rfl, by show (0 : Int) ≤ 0; omega, by show (0 : Int) < 4; omega, ?_⟩
      have : y = 0 ∨ y = 1 ∨ y = 2 := by omega
      rcases this with rfl | rfl | rfl <;> rfl
set_option maxHeartbeats 8000000 in
set_option maxRecDepth 20000 in
theorem durSeqLaw_any (H : DurableOk) (a : Option Addr) (n c : Nat) (Z : List Int) (w : World) (hz : IsRow .i64 w a n c Z) :
    Calls Try.prog 4 #[.slice a n c] w fun r w' => r = .returned (.bool true) ∧ Below w.heap.size w w' := by
  have HA := Lib.hid (fun W => durAwake_any H W)
  have HL := Lib.hid (fun W => light_any a n c W)
  by_cases hn3 : (n : Int) ≤ 300
  · rw [decide_eq_true hn3] at HL
    have HR := Lib.hid (roll_any a n c Z w hz (by omega))
    unfold RollPost at HR
    have hzl : (Z.take n).length ≤ 100000 := by rw [List.length_take]; omega
    have HNZ := Lib.hid (fun W => two_zeros W)
    have K := Env.start w
    generalize Z.take n = zs at *
    clear hz hn3
    go_enter Try.func4, Try.ntmps4
    go_upto_region 6 with (first
      | (go_at_call 8; ((with_reducible refine (HL.out _).mono ?_); rintro r9 w9 ⟨rfl, rfl⟩))
      | (go_at_call 9; ((with_reducible refine (HR.out).mono ?_); rintro r9 w1 ⟨g, rfl, hd, hb⟩; replace K := (K.roll hd hb).1; clear hd hb))
      | (go_at_call 10; ((with_reducible refine (HNZ.out _).mono ?_); rintro r9 w2 ⟨zx, zc, rfl, lz, hb⟩; replace K := zT_start (Z := [zeroC, zeroC]) K hb lz (Nat.zero_lt_succ _) (fun b h => h); clear lz hb)))
    clear HL HR
    go_cut [6] (fun x6 wx => ∃ gA pp pq : Nat, x6 = .pointer (some ⟨gA, 0, none⟩) ∧ Env w wx [Env.lst SR (Env.slv pp 1 1) 1 [zeroC], Env.lst SR (Env.slv pq 1 1) 1 [zeroC], .box gA (.cells #[Env.slv pp 1 1, Env.slv pq 1 1] 31 (0, 0)), zT (some zx) zc [zeroC, zeroC], dieT w.heap.size g zs 0])
    case first =>
      refine Tree3.start (fun W => W.cell? zx = some (.string zeroC) ∧ W.cell? ⟨zx.block, zx.off + 1, none⟩ = some (.string zeroC)) (.take 0 (.take 1 (.take 2 (.take 4 (.take 5 (.take 6 (.fork3 3 (.fork 7 (.take 8 (.only 9 (.only 10 (.done)))) 9 (.only 7 (.take 8 (.only 10 (.done))))) 7 (.fork 3 (.take 8 (.only 9 (.only 10 (.done)))) 9 (.only 3 (.take 8 (.only 10 (.done))))) 9 (.fork 3 (.only 7 (.take 8 (.only 10 (.done)))) 7 (.only 3 (.take 8 (.only 10 (.done)))))))))))) (by kernel_rfl) (by kernel_rfl) (by kernel_rfl) (by kernel_rfl) (zT_two K.drew 0 rfl) ?_
      simp only [Tree3.T.map, List.getElem?_toArray, List.getElem?_cons_zero, List.getElem?_cons_succ]
      have K9 := K.drew
      clear K
      have K := K9
      clear K9
      generalize hv0 : World.drew w2 = v1 at *
      clear hv0
      repeat (first | (refine Tree3.take ?_ (by rfl) ?_ ?_; rotate_left; (· rintro w9 ⟨u0, u1⟩; go_simp; (try rw [if_neg (by omega)]); all_goals (with_reducible rfl)); simp only [Act.put, List.setIfInBounds_toArray, List.set_cons_zero, List.set_cons_succ]))
      refine Tree3.fork3 (by rfl) (by rfl) (by rfl) ?_ ?_ ?_
      · skip
        have K9 : Env w (v1.alloc (.cells #[.string zeroC] 9)) (Env.lst SR (Env.slv v1.heap.size 1 1) 1 [zeroC] :: _) := K.lit srOk [zeroC] 1 rfl (by decide)
        refine (Tree.wp_make (.slice (some ⟨v1.heap.size, 0, none⟩) 1 1) (v1.alloc (.cells #[.string zeroC] 9)) ?_ ⟨(zT_two K9 1 rfl), ?_⟩)
        · go_simp
        simp only [Act.put, List.setIfInBounds_toArray, List.set_cons_zero, List.set_cons_succ]
        clear K
        have K := K9
        clear K9
        generalize v1.heap.size = pp at *
        generalize v1.alloc (.cells #[.string zeroC] 9) = v2 at *
        refine Tree3.fork (by rfl) (by rfl) ?_ ?_
        · skip
          have K9 : Env w (v2.alloc (.cells #[.string zeroC] 9)) (Env.lst SR (Env.slv v2.heap.size 1 1) 1 [zeroC] :: _) := K.lit srOk [zeroC] 1 rfl (by decide)
          refine (Tree.wp_make (.slice (some ⟨v2.heap.size, 0, none⟩) 1 1) (v2.alloc (.cells #[.string zeroC] 9)) ?_ ⟨(zT_two K9 2 rfl), ?_⟩)
          · go_simp
          simp only [Act.put, List.setIfInBounds_toArray, List.set_cons_zero, List.set_cons_succ]
          clear K
          have K := K9
          clear K9
          generalize v2.heap.size = pq at *
          generalize v2.alloc (.cells #[.string zeroC] 9) = v3 at *
          repeat (first | (refine Tree3.take ?_ (by rfl) ?_ ?_; rotate_left; (· rintro w9 ⟨u0, u1⟩; go_simp; (try rw [if_neg (by omega)]); all_goals (with_reducible rfl)); simp only [Act.put, List.setIfInBounds_toArray, List.set_cons_zero, List.set_cons_succ]))
          have K9 := K.al (.cells #[.slice none 0 0, .slice none 0 0] 31 (0, 0))
          refine Tree3.only (by rfl) (Tree.wp_make (.pointer (some ⟨v3.heap.size, 0, none⟩)) (v3.alloc (.cells #[.slice none 0 0, .slice none 0 0] 31 (0, 0))) ?_ ⟨(zT_two K9 3 rfl), ?_⟩)
          · go_simp
          simp only [Act.put, List.setIfInBounds_toArray, List.set_cons_zero, List.set_cons_succ]
          clear K
          have K := K9
          clear K9
          generalize v3.heap.size = gA at *
          generalize v3.alloc (.cells #[.slice none 0 0, .slice none 0 0] 31 (0, 0)) = v4 at *
          refine Tree3.only (by rfl) (K.storeRow 0 rfl 31 (.tmp 6) (.tmp 28) rfl #[Env.slv pp 1 1, Env.slv pq 1 1] rfl rfl arr_info rfl (by simp [Value.oneCell', Env.slv]) ?_)
          intro v5 K9 _
          simp only [List.set] at K9
          refine ⟨(zT_two K9 3 rfl), ?_⟩
          simp only [Act.put]
          clear K
          have K := K9
          clear K9
          refine Tree3.ends ?_
          go_wp2_with fail
          go_meet
          exact ⟨_, _, _, rfl, K.sub (T' := [Env.lst SR (Env.slv pp 1 1) 1 [zeroC], Env.lst SR (Env.slv pq 1 1) 1 [zeroC], .box gA (.cells #[Env.slv pp 1 1, Env.slv pq 1 1] 31 (0, 0)), zT (some zx) zc [zeroC, zeroC], dieT w.heap.size g zs 0]) [2, 1, 0, 3, 4] rfl (by simp) (by simp)⟩
        · skip
          have K9 := K.al (.cells #[.slice none 0 0, .slice none 0 0] 31 (0, 0))
          refine (Tree.wp_make (.pointer (some ⟨v2.heap.size, 0, none⟩)) (v2.alloc (.cells #[.slice none 0 0, .slice none 0 0] 31 (0, 0))) ?_ ⟨(zT_two K9 2 rfl), ?_⟩)
          · go_simp
          simp only [Act.put, List.setIfInBounds_toArray, List.set_cons_zero, List.set_cons_succ]
          clear K
          have K := K9
          clear K9
          generalize v2.heap.size = gA at *
          generalize v2.alloc (.cells #[.slice none 0 0, .slice none 0 0] 31 (0, 0)) = v3 at *
          have K9 : Env w (v3.alloc (.cells #[.string zeroC] 9)) (Env.lst SR (Env.slv v3.heap.size 1 1) 1 [zeroC] :: _) := K.lit srOk [zeroC] 1 rfl (by decide)
          refine Tree3.only (by rfl) (Tree.wp_make (.slice (some ⟨v3.heap.size, 0, none⟩) 1 1) (v3.alloc (.cells #[.string zeroC] 9)) ?_ ⟨(zT_two K9 3 rfl), ?_⟩)
          · go_simp
          simp only [Act.put, List.setIfInBounds_toArray, List.set_cons_zero, List.set_cons_succ]
          clear K
          have K := K9
          clear K9
          generalize v3.heap.size = pq at *
          generalize v3.alloc (.cells #[.string zeroC] 9) = v4 at *
          repeat (first | (refine Tree3.take ?_ (by rfl) ?_ ?_; rotate_left; (· rintro w9 ⟨u0, u1⟩; go_simp; (try rw [if_neg (by omega)]); all_goals (with_reducible rfl)); simp only [Act.put, List.setIfInBounds_toArray, List.set_cons_zero, List.set_cons_succ]))
          refine Tree3.only (by rfl) (K.storeRow 1 rfl 31 (.tmp 6) (.tmp 28) rfl #[Env.slv pp 1 1, Env.slv pq 1 1] rfl rfl arr_info rfl (by simp [Value.oneCell', Env.slv]) ?_)
          intro v5 K9 _
          simp only [List.set] at K9
          refine ⟨(zT_two K9 3 rfl), ?_⟩
          simp only [Act.put]
          clear K
          have K := K9
          clear K9
          refine Tree3.ends ?_
          go_wp2_with fail
          go_meet
          exact ⟨_, _, _, rfl, K.sub (T' := [Env.lst SR (Env.slv pp 1 1) 1 [zeroC], Env.lst SR (Env.slv pq 1 1) 1 [zeroC], .box gA (.cells #[Env.slv pp 1 1, Env.slv pq 1 1] 31 (0, 0)), zT (some zx) zc [zeroC, zeroC], dieT w.heap.size g zs 0]) [2, 0, 1, 3, 4] rfl (by simp) (by simp)⟩
      · skip
        have K9 : Env w (v1.alloc (.cells #[.string zeroC] 9)) (Env.lst SR (Env.slv v1.heap.size 1 1) 1 [zeroC] :: _) := K.lit srOk [zeroC] 1 rfl (by decide)
        refine (Tree.wp_make (.slice (some ⟨v1.heap.size, 0, none⟩) 1 1) (v1.alloc (.cells #[.string zeroC] 9)) ?_ ⟨(zT_two K9 1 rfl), ?_⟩)
        · go_simp
        simp only [Act.put, List.setIfInBounds_toArray, List.set_cons_zero, List.set_cons_succ]
        clear K
        have K := K9
        clear K9
        generalize v1.heap.size = pq at *
        generalize v1.alloc (.cells #[.string zeroC] 9) = v2 at *
        refine Tree3.fork (by rfl) (by rfl) ?_ ?_
        · skip
          have K9 : Env w (v2.alloc (.cells #[.string zeroC] 9)) (Env.lst SR (Env.slv v2.heap.size 1 1) 1 [zeroC] :: _) := K.lit srOk [zeroC] 1 rfl (by decide)
          refine (Tree.wp_make (.slice (some ⟨v2.heap.size, 0, none⟩) 1 1) (v2.alloc (.cells #[.string zeroC] 9)) ?_ ⟨(zT_two K9 2 rfl), ?_⟩)
          · go_simp
          simp only [Act.put, List.setIfInBounds_toArray, List.set_cons_zero, List.set_cons_succ]
          clear K
          have K := K9
          clear K9
          generalize v2.heap.size = pp at *
          generalize v2.alloc (.cells #[.string zeroC] 9) = v3 at *
          repeat (first | (refine Tree3.take ?_ (by rfl) ?_ ?_; rotate_left; (· rintro w9 ⟨u0, u1⟩; go_simp; (try rw [if_neg (by omega)]); all_goals (with_reducible rfl)); simp only [Act.put, List.setIfInBounds_toArray, List.set_cons_zero, List.set_cons_succ]))
          have K9 := K.al (.cells #[.slice none 0 0, .slice none 0 0] 31 (0, 0))
          refine Tree3.only (by rfl) (Tree.wp_make (.pointer (some ⟨v3.heap.size, 0, none⟩)) (v3.alloc (.cells #[.slice none 0 0, .slice none 0 0] 31 (0, 0))) ?_ ⟨(zT_two K9 3 rfl), ?_⟩)
          · go_simp
          simp only [Act.put, List.setIfInBounds_toArray, List.set_cons_zero, List.set_cons_succ]
          clear K
          have K := K9
          clear K9
          generalize v3.heap.size = gA at *
          generalize v3.alloc (.cells #[.slice none 0 0, .slice none 0 0] 31 (0, 0)) = v4 at *
          refine Tree3.only (by rfl) (K.storeRow 0 rfl 31 (.tmp 6) (.tmp 28) rfl #[Env.slv pp 1 1, Env.slv pq 1 1] rfl rfl arr_info rfl (by simp [Value.oneCell', Env.slv]) ?_)
          intro v5 K9 _
          simp only [List.set] at K9
          refine ⟨(zT_two K9 3 rfl), ?_⟩
          simp only [Act.put]
          clear K
          have K := K9
          clear K9
          refine Tree3.ends ?_
          go_wp2_with fail
          go_meet
          exact ⟨_, _, _, rfl, K.sub (T' := [Env.lst SR (Env.slv pp 1 1) 1 [zeroC], Env.lst SR (Env.slv pq 1 1) 1 [zeroC], .box gA (.cells #[Env.slv pp 1 1, Env.slv pq 1 1] 31 (0, 0)), zT (some zx) zc [zeroC, zeroC], dieT w.heap.size g zs 0]) [1, 2, 0, 3, 4] rfl (by simp) (by simp)⟩
        · skip
          have K9 := K.al (.cells #[.slice none 0 0, .slice none 0 0] 31 (0, 0))
          refine (Tree.wp_make (.pointer (some ⟨v2.heap.size, 0, none⟩)) (v2.alloc (.cells #[.slice none 0 0, .slice none 0 0] 31 (0, 0))) ?_ ⟨(zT_two K9 2 rfl), ?_⟩)
          · go_simp
          simp only [Act.put, List.setIfInBounds_toArray, List.set_cons_zero, List.set_cons_succ]
          clear K
          have K := K9
          clear K9
          generalize v2.heap.size = gA at *
          generalize v2.alloc (.cells #[.slice none 0 0, .slice none 0 0] 31 (0, 0)) = v3 at *
          have K9 : Env w (v3.alloc (.cells #[.string zeroC] 9)) (Env.lst SR (Env.slv v3.heap.size 1 1) 1 [zeroC] :: _) := K.lit srOk [zeroC] 1 rfl (by decide)
          refine Tree3.only (by rfl) (Tree.wp_make (.slice (some ⟨v3.heap.size, 0, none⟩) 1 1) (v3.alloc (.cells #[.string zeroC] 9)) ?_ ⟨(zT_two K9 3 rfl), ?_⟩)
          · go_simp
          simp only [Act.put, List.setIfInBounds_toArray, List.set_cons_zero, List.set_cons_succ]
          clear K
          have K := K9
          clear K9
          generalize v3.heap.size = pp at *
          generalize v3.alloc (.cells #[.string zeroC] 9) = v4 at *
          repeat (first | (refine Tree3.take ?_ (by rfl) ?_ ?_; rotate_left; (· rintro w9 ⟨u0, u1⟩; go_simp; (try rw [if_neg (by omega)]); all_goals (with_reducible rfl)); simp only [Act.put, List.setIfInBounds_toArray, List.set_cons_zero, List.set_cons_succ]))
          refine Tree3.only (by rfl) (K.storeRow 1 rfl 31 (.tmp 6) (.tmp 28) rfl #[Env.slv pp 1 1, Env.slv pq 1 1] rfl rfl arr_info rfl (by simp [Value.oneCell', Env.slv]) ?_)
          intro v5 K9 _
          simp only [List.set] at K9
          refine ⟨(zT_two K9 3 rfl), ?_⟩
          simp only [Act.put]
          clear K
          have K := K9
          clear K9
          refine Tree3.ends ?_
          go_wp2_with fail
          go_meet
          exact ⟨_, _, _, rfl, K.sub (T' := [Env.lst SR (Env.slv pp 1 1) 1 [zeroC], Env.lst SR (Env.slv pq 1 1) 1 [zeroC], .box gA (.cells #[Env.slv pp 1 1, Env.slv pq 1 1] 31 (0, 0)), zT (some zx) zc [zeroC, zeroC], dieT w.heap.size g zs 0]) [0, 2, 1, 3, 4] rfl (by simp) (by simp)⟩
      · skip
        have K9 := K.al (.cells #[.slice none 0 0, .slice none 0 0] 31 (0, 0))
        refine (Tree.wp_make (.pointer (some ⟨v1.heap.size, 0, none⟩)) (v1.alloc (.cells #[.slice none 0 0, .slice none 0 0] 31 (0, 0))) ?_ ⟨(zT_two K9 1 rfl), ?_⟩)
        · go_simp
        simp only [Act.put, List.setIfInBounds_toArray, List.set_cons_zero, List.set_cons_succ]
        clear K
        have K := K9
        clear K9
        generalize v1.heap.size = gA at *
        generalize v1.alloc (.cells #[.slice none 0 0, .slice none 0 0] 31 (0, 0)) = v2 at *
        refine Tree3.fork (by rfl) (by rfl) ?_ ?_
        · skip
          have K9 : Env w (v2.alloc (.cells #[.string zeroC] 9)) (Env.lst SR (Env.slv v2.heap.size 1 1) 1 [zeroC] :: _) := K.lit srOk [zeroC] 1 rfl (by decide)
          refine (Tree.wp_make (.slice (some ⟨v2.heap.size, 0, none⟩) 1 1) (v2.alloc (.cells #[.string zeroC] 9)) ?_ ⟨(zT_two K9 2 rfl), ?_⟩)
          · go_simp
          simp only [Act.put, List.setIfInBounds_toArray, List.set_cons_zero, List.set_cons_succ]
          clear K
          have K := K9
          clear K9
          generalize v2.heap.size = pp at *
          generalize v2.alloc (.cells #[.string zeroC] 9) = v3 at *
          have K9 : Env w (v3.alloc (.cells #[.string zeroC] 9)) (Env.lst SR (Env.slv v3.heap.size 1 1) 1 [zeroC] :: _) := K.lit srOk [zeroC] 1 rfl (by decide)
          refine Tree3.only (by rfl) (Tree.wp_make (.slice (some ⟨v3.heap.size, 0, none⟩) 1 1) (v3.alloc (.cells #[.string zeroC] 9)) ?_ ⟨(zT_two K9 3 rfl), ?_⟩)
          · go_simp
          simp only [Act.put, List.setIfInBounds_toArray, List.set_cons_zero, List.set_cons_succ]
          clear K
          have K := K9
          clear K9
          generalize v3.heap.size = pq at *
          generalize v3.alloc (.cells #[.string zeroC] 9) = v4 at *
          repeat (first | (refine Tree3.take ?_ (by rfl) ?_ ?_; rotate_left; (· rintro w9 ⟨u0, u1⟩; go_simp; (try rw [if_neg (by omega)]); all_goals (with_reducible rfl)); simp only [Act.put, List.setIfInBounds_toArray, List.set_cons_zero, List.set_cons_succ]))
          refine Tree3.only (by rfl) (K.storeRow 2 rfl 31 (.tmp 6) (.tmp 28) rfl #[Env.slv pp 1 1, Env.slv pq 1 1] rfl rfl arr_info rfl (by simp [Value.oneCell', Env.slv]) ?_)
          intro v5 K9 _
          simp only [List.set] at K9
          refine ⟨(zT_two K9 3 rfl), ?_⟩
          simp only [Act.put]
          clear K
          have K := K9
          clear K9
          refine Tree3.ends ?_
          go_wp2_with fail
          go_meet
          exact ⟨_, _, _, rfl, K.sub (T' := [Env.lst SR (Env.slv pp 1 1) 1 [zeroC], Env.lst SR (Env.slv pq 1 1) 1 [zeroC], .box gA (.cells #[Env.slv pp 1 1, Env.slv pq 1 1] 31 (0, 0)), zT (some zx) zc [zeroC, zeroC], dieT w.heap.size g zs 0]) [1, 0, 2, 3, 4] rfl (by simp) (by simp)⟩
        · skip
          have K9 : Env w (v2.alloc (.cells #[.string zeroC] 9)) (Env.lst SR (Env.slv v2.heap.size 1 1) 1 [zeroC] :: _) := K.lit srOk [zeroC] 1 rfl (by decide)
          refine (Tree.wp_make (.slice (some ⟨v2.heap.size, 0, none⟩) 1 1) (v2.alloc (.cells #[.string zeroC] 9)) ?_ ⟨(zT_two K9 2 rfl), ?_⟩)
          · go_simp
          simp only [Act.put, List.setIfInBounds_toArray, List.set_cons_zero, List.set_cons_succ]
          clear K
          have K := K9
          clear K9
          generalize v2.heap.size = pq at *
          generalize v2.alloc (.cells #[.string zeroC] 9) = v3 at *
          have K9 : Env w (v3.alloc (.cells #[.string zeroC] 9)) (Env.lst SR (Env.slv v3.heap.size 1 1) 1 [zeroC] :: _) := K.lit srOk [zeroC] 1 rfl (by decide)
          refine Tree3.only (by rfl) (Tree.wp_make (.slice (some ⟨v3.heap.size, 0, none⟩) 1 1) (v3.alloc (.cells #[.string zeroC] 9)) ?_ ⟨(zT_two K9 3 rfl), ?_⟩)
          · go_simp
          simp only [Act.put, List.setIfInBounds_toArray, List.set_cons_zero, List.set_cons_succ]
          clear K
          have K := K9
          clear K9
          generalize v3.heap.size = pp at *
          generalize v3.alloc (.cells #[.string zeroC] 9) = v4 at *
          repeat (first | (refine Tree3.take ?_ (by rfl) ?_ ?_; rotate_left; (· rintro w9 ⟨u0, u1⟩; go_simp; (try rw [if_neg (by omega)]); all_goals (with_reducible rfl)); simp only [Act.put, List.setIfInBounds_toArray, List.set_cons_zero, List.set_cons_succ]))
          refine Tree3.only (by rfl) (K.storeRow 2 rfl 31 (.tmp 6) (.tmp 28) rfl #[Env.slv pp 1 1, Env.slv pq 1 1] rfl rfl arr_info rfl (by simp [Value.oneCell', Env.slv]) ?_)
          intro v5 K9 _
          simp only [List.set] at K9
          refine ⟨(zT_two K9 3 rfl), ?_⟩
          simp only [Act.put]
          clear K
          have K := K9
          clear K9
          refine Tree3.ends ?_
          go_wp2_with fail
          go_meet
          exact ⟨_, _, _, rfl, K.sub (T' := [Env.lst SR (Env.slv pp 1 1) 1 [zeroC], Env.lst SR (Env.slv pq 1 1) 1 [zeroC], .box gA (.cells #[Env.slv pp 1 1, Env.slv pq 1 1] 31 (0, 0)), zT (some zx) zc [zeroC, zeroC], dieT w.heap.size g zs 0]) [0, 1, 2, 3, 4] rfl (by simp) (by simp)⟩
    case rest =>
      clear K
      obtain ⟨gA, pp, pq, rfl, K⟩ := hcut
      go_upto_region 7 with fail
      refine Tree.start (fun W => W.cell? zx = some (.string zeroC) ∧ W.cell? ⟨zx.block, zx.off + 1, none⟩ = some (.string zeroC)) (.take 0 (.take 1 (.take 2 (.take 3 (.take 4 (.take 5 (.take 6 (.only 7 (.only 8 (.done)))))))))) (by kernel_rfl) (by kernel_rfl) (by kernel_rfl) (by kernel_rfl) (zT_two K.drew 3 rfl) ?_
      simp only [Tree.T.map, List.getElem?_toArray, List.getElem?_cons_zero, List.getElem?_cons_succ]
      have K9 := K.drew
      clear K
      have K := K9
      clear K9
      generalize hv0 : World.drew wc = v1 at *
      clear hv0
      repeat (first | (refine Tree.take ?_ (by rfl) ?_ ?_; rotate_left; (· rintro w9 ⟨u0, u1⟩; go_simp; (try rw [if_neg (by omega)]); all_goals (with_reducible rfl)); simp only [Act.put, List.setIfInBounds_toArray, List.set_cons_zero, List.set_cons_succ]))
      have K9 := K.al (.cells #[.string ⟨#[]⟩, .string ⟨#[]⟩] 32 (0, 0))
      refine Tree.only (by rfl) (Tree.wp_make (.pointer (some ⟨v1.heap.size, 0, none⟩)) (v1.alloc (.cells #[.string ⟨#[]⟩, .string ⟨#[]⟩] 32 (0, 0))) ?_ ⟨(zT_two K9 4 rfl), ?_⟩)
      · go_simp
      simp only [Act.put, List.setIfInBounds_toArray, List.set_cons_zero, List.set_cons_succ]
      clear K
      have K := K9
      clear K9
      generalize v1.heap.size = gN at *
      generalize v1.alloc (.cells #[.string ⟨#[]⟩, .string ⟨#[]⟩] 32 (0, 0)) = v2 at *
      refine Tree.only (by rfl) (K.storeRow 0 rfl 32 (.tmp 7) (.tmp 35) rfl #[.string zeroC, .string zeroC] rfl rfl now_info rfl (by simp [Value.oneCell']) ?_)
      intro v3 K9 _
      simp only [List.set] at K9
      refine ⟨(zT_two K9 4 rfl), ?_⟩
      simp only [Act.put]
      clear K
      have K := K9
      clear K9
      refine Tree.ends ?_
      replace K := (K.nil VR).sub (T' := [Env.lst VR (.slice none 0 0) 0 [], Env.lst SR (Env.slv pp 1 1) 1 [zeroC], Env.lst SR (Env.slv pq 1 1) 1 [zeroC], .box gA (.cells #[Env.slv pp 1 1, Env.slv pq 1 1] 31 (0, 0)), .box gN (.cells #[.string zeroC, .string zeroC] 32 (0, 0)), dieT w.heap.size g zs 0, zT (some zx) zc [zeroC, zeroC]]) [0, 2, 3, 4, 1, 6, 5] rfl (by simp) (by simp)
      clear HNZ
      obtain ⟨wX, hwX⟩ : ∃ W, v3 = W := ⟨_, rfl⟩
      subst hwX
      have HOK := Lib.hid (show SeqOk [] from ⟨fun i y h => by simp at h, fun y h => by simp at h⟩)
      have HB := Lib.hid (⟨SeqB.start _, SeqB.start _⟩ : SeqB [] ((0 : Nat) : Int) [zeroC] zeroC ∧ SeqB [] ((1 : Nat) : Int) [zeroC] zeroC)
      go_wp2_with fail
      go_loopw [5, 8] (fun x5 x8 wr => ∃ (i k m0 m1 p0 p1 c0 c1 : Nat) (ys : List Ev) (A0 A1 : List ByteArray) (s0 s1 : ByteArray) (hv : Value), x5 = hv ∧ x8 = .int .i64 (i : Int) ∧ i ≤ 20 ∧ ys.length = i ∧ RowKit.Hid (SeqOk ys) ∧ RowKit.Hid (SeqB ys ((0 : Nat) : Int) A0 s0 ∧ SeqB ys ((1 : Nat) : Int) A1 s1) ∧ m0 ≤ i + 1 ∧ m1 ≤ i + 1 ∧ k ≤ 3 * i ∧ Env w wr [Env.lst VR hv (2 * i) (seqL ys), Env.lst SR (Env.slv p0 m0 c0) m0 A0, Env.lst SR (Env.slv p1 m1 c1) m1 A1, .box gA (.cells #[Env.slv p0 m0 c0, Env.slv p1 m1 c1] 31 (0, 0)), .box gN (.cells #[.string s0, .string s1] 32 (0, 0)), dieT w.heap.size g zs k, zT (some zx) zc [zeroC, zeroC]]) (fun _ x8 _ => 20 - (intOf x8).toNat)
      case atStart => exact ⟨0, 0, 1, 1, pp, pq, 1, 1, [], _, _, _, _, _, rfl, rfl, by omega, rfl, HOK, HB, by omega, by omega, by omega, K⟩
      case round =>
        clear K HOK HB
        obtain ⟨i, k, m0, m1, p0, p1, c0, c1, ys, A0, A1, s0, s1, hv, rfl, rfl, hi, hn, HOK, HB, hm0, hm1, hk, K⟩ := hrel
        have HD := Lib.hid (fun W (h : Dice W w.heap.size g zs k) => rest_dice W w.heap.size g zs k h hzl (by omega))
        go_upto_region 9 with fail
        go_cut [42] (fun s wx => ∃ bq : Bool, s = .bool bq ∧ (bq = true → i < 20) ∧ Env w wx [Env.lst VR u5 (2 * i) (seqL ys), Env.lst SR (Env.slv p0 m0 c0) m0 A0, Env.lst SR (Env.slv p1 m1 c1) m1 A1, .box gA (.cells #[Env.slv p0 m0 c0, Env.slv p1 m1 c1] 31 (0, 0)), .box gN (.cells #[.string s0, .string s1] 32 (0, 0)), dieT w.heap.size g zs k, zT (some zx) zc [zeroC, zeroC]])
        case first =>
          by_cases h20 : i < 20
          · have h20I : (i : Int) < 20 := by omega
            go_wp2_with (first
              | (go_at_call 11; ((with_reducible refine (HD.out _ (K.die 5 rfl)).mono ?_); rintro r9 w5 ⟨rfl, rfl⟩; replace K := K.drew)))
            go_meet
            exact ⟨_, rfl, fun _ => h20, K⟩
          · have h20I : ¬ (i : Int) < 20 := by omega
            go_wp2_with fail
            go_meet
            exact ⟨false, rfl, (fun h => by cases h), K⟩
        case rest =>
          clear K HD
          obtain ⟨bq, rfl, hq, K⟩ := hcut
          cases bq with
          | true =>
            have h20 := hq rfl
            clear hq
            have mk1 : True := trivial
            have mk2 : True := trivial
            have mk4 : True := trivial
            go_upto_if 54 with (first
              | (have z9 := mk1; clear z9; go_at_call 12; ((with_reducible refine (K.next 5 rfl hzl _ (by first | assumption | decide | omega) (by first | assumption | decide | omega)).mono ?_); rintro r9 w9 ⟨y, k9, rfl, hy, hk9, K9, -⟩; simp only [List.set] at K9; clear K mk1; have K := K9; clear K9; have hyb : y ≤ 2 := (by omega); have hk65 : IntKind.i64.wrap (2 + (y : Int)) = 2 + (y : Int) := (by rw [IntWalk.i64_in _ (by omega)]); have hk64 : wrap64 (2 + (y : Int)) = 2 + (y : Int) := by clear K; unfold wrap64; omega)))
            clear hk64 hk65
            replace K := K.al (.cells #[.bool false, .int .i64 0, .int .i64 (i : Int), .int .i64 (2 + (y : Int)), .int .i64 0, .string ⟨#[]⟩, .int .i64 0, .string ⟨#[]⟩] 41)
            obtain ⟨ge, hge⟩ : ∃ ge, w9.heap.size = ge := ⟨_, rfl⟩
            rw [hge] at K
            simp only [hge]
            generalize w9.alloc (.cells #[.bool false, .int .i64 0, .int .i64 (i : Int), .int .i64 (2 + (y : Int)), .int .i64 0, .string ⟨#[]⟩, .int .i64 0, .string ⟨#[]⟩] 41) = w10 at *
            clear hge
            obtain ⟨b0, b1, b2c, b3, b4, b5, b6, b7⟩ := ev_cells (K.get 0 rfl)
            go_cut [] (fun wx => ∃ (b2 k' : Nat), b2 ≤ 1 ∧ (y = 2 → b2 = 0) ∧ k' ≤ k9 + 1 ∧ Env w wx [.box ge (.cells #[.bool false, .int .i64 0, .int .i64 (i : Int), .int .i64 (2 + (y : Int)), .int .i64 (b2 : Int), .string ⟨#[]⟩, .int .i64 0, .string ⟨#[]⟩] 41 (0, 0)), Env.lst VR u5 (2 * i) (seqL ys), Env.lst SR (Env.slv p0 m0 c0) m0 A0, Env.lst SR (Env.slv p1 m1 c1) m1 A1, .box gA (.cells #[Env.slv p0 m0 c0, Env.slv p1 m1 c1] 31 (0, 0)), .box gN (.cells #[.string s0, .string s1] 32 (0, 0)), dieT w.heap.size g zs k', zT (some zx) zc [zeroC, zeroC]])
            case first =>
              by_cases hy2 : y = 2
              · have d1 : ((2 + (y : Int)) != 4) = false := by simp; omega
                have d2 : (2 + (y : Int)) = 4 := by omega
                go_wp2_with fail
                go_meet
                exact ⟨0, _, by omega, fun _ => rfl, by omega, K⟩
              · have d1 : ((2 + (y : Int)) != 4) = true := by simp; omega
                have d2 : ¬ (2 + (y : Int)) = 4 := by omega
                go_wp2_with (first
                  | (have z9 := mk2; clear z9; go_at_call 12; ((with_reducible refine (K.next 6 rfl hzl _ (by first | assumption | decide | omega) (by first | assumption | decide | omega)).mono ?_); rintro r9 w9 ⟨bl, k9, rfl, hbl, hk9, K9, -⟩; simp only [List.set] at K9; clear K mk2; have K := K9; clear K9; clear b0 b1 b2c b3 b4 b5 b6 b7; obtain ⟨b0, b1, b2c, b3, b4, b5, b6, b7⟩ := ev_cells (K.get 0 rfl); have f4 := K.free 0 rfl 4)))
                have K9 := K.put1 0 rfl (cs' := #[.bool false, .int .i64 0, .int .i64 (i : Int), .int .i64 (2 + (y : Int)), .int .i64 (bl : Int), .string ⟨#[]⟩, .int .i64 0, .string ⟨#[]⟩]) 4 (.int .i64 (bl : Int)) rfl rfl
                simp only [List.set] at K9
                go_meet
                exact ⟨bl, _, by omega, fun h => absurd h hy2, by omega, K9⟩
            case rest =>
              clear K b0 b1 b2c b3 b4 b5 b6 b7 mk2
              obtain ⟨b2, k8, hb2, hF, hk8, K⟩ := hcut
              obtain ⟨b0, b1, b2c, b3, b4, b5, b6, b7⟩ := ev_cells (K.get 0 rfl)
              go_upto_block 2 with fail
              clear b0 b1 b2c b3 b4 b5 b6 b7
              go_cut [] (fun wx => ∃ (sv : ByteArray) (A0' A1' : List ByteArray) (s0' s1' : ByteArray) (p0' m0' c0' p1' m1' c1' k' : Nat), m0' ≤ m0 + 1 ∧ m1' ≤ m1 + 1 ∧ k' ≤ k8 + 1 ∧ RowKit.Hid (SeqB (ys ++ [(⟨true, 0, (i : Int), 2 + (y : Int), (b2 : Int), sv, 0, ⟨#[]⟩⟩ : Ev)]) ((0 : Nat) : Int) A0' s0' ∧ SeqB (ys ++ [(⟨true, 0, (i : Int), 2 + (y : Int), (b2 : Int), sv, 0, ⟨#[]⟩⟩ : Ev)]) ((1 : Nat) : Int) A1' s1') ∧ Env w wx [.box ge (.cells #[.bool false, .int .i64 0, .int .i64 (i : Int), .int .i64 (2 + (y : Int)), .int .i64 (b2 : Int), .string sv, .int .i64 0, .string ⟨#[]⟩] 41 (0, 0)), Env.lst VR u5 (2 * i) (seqL ys), Env.lst SR (Env.slv p0' m0' c0') m0' A0', Env.lst SR (Env.slv p1' m1' c1') m1' A1', .box gA (.cells #[Env.slv p0' m0' c0', Env.slv p1' m1' c1'] 31 (0, 0)), .box gN (.cells #[.string s0', .string s1'] 32 (0, 0)), dieT w.heap.size g zs k', zT (some zx) zc [zeroC, zeroC]])
              case first =>
                have hbb : b2 = 0 ∨ b2 = 1 := by omega
                rcases hbb with hbb | hbb
                · obtain rfl : b2 = 0 := by omega
                  by_cases hy0 : y = 0
                  · have d1 : ((2 + (y : Int)) == 2) = true := by simp; omega
                    have hw := Lib.hid (show y < 1 from by omega)
                    clear hF hy0
                    obtain ⟨b0, b1, b2c, b3, b4, b5, b6, b7⟩ := ev_cells (K.get 0 rfl)
                    go_upto_region 19 with (first
                      | (have z9 := mk4; clear z9; go_at_call 12; ((with_reducible refine (K.next 6 rfl hzl _ (by first | assumption | decide | omega) (by first | assumption | decide | omega)).mono ?_); rintro r9 w9 ⟨dv, k9, rfl, hdv, hk9, K9, -⟩; simp only [List.set] at K9; clear K mk4; have K := K9; clear K9; have hdvb : dv ≤ 1000 := (by omega); have HVA := fun W => made_value dv W hdvb; have hkw : IntKind.i64.wrap (1 + (dv : Int)) = 1 + (dv : Int) := kwrap_one dv hdvb; have hkw2 : wrap64 (1 + (dv : Int)) = 1 + (dv : Int) := wrap_one dv hdvb))
                      | (go_at_call 13; ((with_reducible refine (HVA _).mono ?_); rintro r9 w11 ⟨rfl, hb⟩; have K9 := K.on hb; clear K hb; have K := K9; clear K9; generalize (⟨(valueL (1 + dv)).toArray⟩ : ByteArray) = sv at *; clear b0 b1 b2c b3 b4 b5 b6 b7; obtain ⟨b0, b1, b2c, b3, b4, b5, b6, b7⟩ := ev_cells (K.get 0 rfl); have f5 := K.free 0 rfl 5)))
                    clear hkw hkw2 f5 b0 b1 b2c b3 b4 b5 b6 b7
                    have K9 := K.put1 0 rfl (cs' := #[.bool false, .int .i64 0, .int .i64 (i : Int), .int .i64 (2 + (y : Int)), .int .i64 ((0 : Nat) : Int), .string sv, .int .i64 0, .string ⟨#[]⟩]) 5 (.string sv) rfl rfl
                    simp only [List.set] at K9
                    clear K
                    have K := K9
                    clear K9
                    obtain ⟨w12, hw12⟩ : ∃ W, (w11.setCell ⟨ge, 5, none⟩ (.string sv)) = W := ⟨_, rfl⟩
                    rw [hw12] at K
                    simp only [hw12]
                    clear hw12
                    obtain ⟨b0, b1, b2c, b3, b4, b5, b6, b7⟩ := ev_cells (K.get 0 rfl)
                    obtain ⟨t0, t1⟩ := two_cells (K.get 5 rfl)
                    have f5 := K.free 5 rfl 0
                    go_upto_region 20 with fail
                    clear t0 t1 f5 b0 b1 b2c b3 b4 b5 b6 b7
                    have K9 := K.put1 5 rfl (cs' := #[.string sv, .string s1]) 0 (.string sv) rfl rfl
                    simp only [List.set] at K9
                    clear K
                    have K := K9
                    clear K9
                    obtain ⟨w13, hw12⟩ : ∃ W, (w12.setCell ⟨gN, 0, none⟩ (.string sv)) = W := ⟨_, rfl⟩
                    rw [hw12] at K
                    simp only [hw12]
                    clear hw12
                    have hm4 : m0 ≤ 21 := by omega
                    refine LTree.start (fun W => W.cell? ⟨gA, 0, none⟩ = some (Env.slv p0 m0 c0) ∧ W.cell? ⟨gN, 0, none⟩ = some (.string sv)) (.take 0 (.take 1 (.take 2 (.take 3 (.take 4 (.take 5 (.take 6 (.only 7 (.only 8 (.take 9 (.only 10 (.done)))))))))))) (by kernel_rfl) (by kernel_rfl) (by kernel_rfl) (by kernel_rfl) ⟨(two_cells (K.drew.get 4 rfl)).1, (two_cells (K.drew.get 5 rfl)).1⟩ ?_
                    simp only [Tree.T.map, List.getElem?_toArray, List.getElem?_cons_zero, List.getElem?_cons_succ]
                    have K9 := K.drew
                    clear K
                    have K := K9
                    clear K9
                    generalize hv0 : World.drew w13 = v1 at *
                    clear hv0
                    repeat (first | (refine LTree.take ?_ (by rfl) ?_ ?_; rotate_left; (· rintro w9 ⟨u0, u1⟩; go_simp; (try rw [if_neg (by omega)]); all_goals (with_reducible rfl)); simp only [Act.put, List.setIfInBounds_toArray, List.set_cons_zero, List.set_cons_succ]))
                    have K9 := K.al (.cells #[.string sv] 9 (0, 0))
                    refine LTree.only (by rfl) (Tree.wp_make (.slice (some ⟨v1.heap.size, 0, none⟩) 1 1) (v1.alloc (.cells #[.string sv] 9 (0, 0))) ?_ ⟨⟨(two_cells (K9.get 5 rfl)).1, (two_cells (K9.get 6 rfl)).1⟩, ?_⟩)
                    · go_simp
                    simp only [Act.put, List.setIfInBounds_toArray, List.set_cons_zero, List.set_cons_succ]
                    clear K
                    have K := K9
                    clear K9
                    generalize v1.heap.size = ge at *
                    generalize v1.alloc (.cells #[.string sv] 9 (0, 0)) = v2 at *
                    refine LTree.only (by rfl) (K.app_one srOk (.tmp 88) (.tmp 92) rfl 3 0 rfl rfl (e := sv) rfl rfl (by omega) ?_)
                    intro gp cp v3 K9 _
                    simp only [List.set] at K9
                    refine ⟨⟨(two_cells (K9.get 5 rfl)).1, (two_cells (K9.get 6 rfl)).1⟩, ?_⟩
                    simp only [Act.put, List.setIfInBounds_toArray, List.set_cons_zero, List.set_cons_succ]
                    clear K
                    have K := K9
                    clear K9
                    repeat (first | (refine LTree.take ?_ (by rfl) ?_ ?_; rotate_left; (· rintro w9 ⟨u0, u1⟩; go_simp; (try rw [if_neg (by omega)]); all_goals (with_reducible rfl)); simp only [Act.put, List.setIfInBounds_toArray, List.set_cons_zero, List.set_cons_succ]))
                    refine LTree.last (by rfl) (K.store1 5 rfl 22 (.tmp 94) (.tmp 93) rfl 0 (Env.slv gp (m0 + 1) cp) rfl rfl (by simp) seq_strs1 rfl rfl ?_)
                    intro v4 K9 _
                    simp only [List.set, List.setIfInBounds_toArray] at K9
                    simp only [Act.put]
                    clear K
                    have K := K9
                    clear K9
                    go_wp2_with fail
                    go_meet
                    have K9 := K.sub (T' := [_, _, _, _, _, _, _, _]) [1, 2, 3, 4, 5, 6, 7, 8] rfl (by simp) (by simp)
                    exact ⟨sv, (A0 ++ [sv]), A1, sv, s1, gp, (m0 + 1), cp, p1, m1, c1, _, by omega, by omega, by omega, Lib.hid ⟨(by have h9 := HB.out.1.change ((change_ch (y := y) (b := 0) (s := (i : Int)) (sv := sv) (by have := hw.out; omega) 0).1.trans (by decide)) (change_ch (y := y) (b := 0) (s := (i : Int)) (sv := sv) (by have := hw.out; omega) 0).2; rw [val_w hw.out] at h9; exact h9), (HB.out.2.other ((change_ch (y := y) (b := 0) (s := (i : Int)) (sv := sv) (by have := hw.out; omega) 1).1.trans (by decide)) (change_ch (y := y) (b := 0) (s := (i : Int)) (sv := sv) (by have := hw.out; omega) 1).2)⟩, K9⟩
                  · have d1 : ((2 + (y : Int)) == 2) = false := by simp; omega
                    have d2 : ¬ (2 + (y : Int)) = 2 := by omega
                    by_cases hy1 : y = 1
                    · have d3 : ((2 + (y : Int)) == 3) = true := by simp; omega
                      have hw := Lib.hid (show y ≤ 1 ∧ 1 ≤ y from by omega)
                      clear hF hy0 hy1
                      obtain ⟨z0, z1⟩ := zT_two K 7 rfl
                      obtain ⟨t0, t1⟩ := two_cells (K.get 5 rfl)
                      have f5 := K.free 5 rfl 0
                      go_upto_region 23 with fail
                      clear z0 z1 t0 t1 f5
                      have K9 := K.put1 5 rfl (cs' := #[.string zeroC, .string s1]) 0 (.string zeroC) rfl rfl
                      simp only [List.set] at K9
                      clear K
                      have K := K9
                      clear K9
                      obtain ⟨w13, hw12⟩ : ∃ W, (wc.setCell ⟨gN, 0, none⟩ (.string zeroC)) = W := ⟨_, rfl⟩
                      rw [hw12] at K
                      simp only [hw12]
                      clear hw12
                      have hm4 : m0 ≤ 21 := by omega
                      refine LTree.start (fun W => W.cell? ⟨gA, 0, none⟩ = some (Env.slv p0 m0 c0) ∧ W.cell? ⟨gN, 0, none⟩ = some (.string zeroC)) (.take 0 (.take 1 (.take 2 (.take 3 (.take 4 (.take 5 (.take 6 (.only 7 (.only 8 (.take 9 (.only 10 (.done)))))))))))) (by kernel_rfl) (by kernel_rfl) (by kernel_rfl) (by kernel_rfl) ⟨(two_cells (K.drew.get 4 rfl)).1, (two_cells (K.drew.get 5 rfl)).1⟩ ?_
                      simp only [Tree.T.map, List.getElem?_toArray, List.getElem?_cons_zero, List.getElem?_cons_succ]
                      have K9 := K.drew
                      clear K
                      have K := K9
                      clear K9
                      generalize hv0 : World.drew w13 = v1 at *
                      clear hv0
                      repeat (first | (refine LTree.take ?_ (by rfl) ?_ ?_; rotate_left; (· rintro w9 ⟨u0, u1⟩; go_simp; (try rw [if_neg (by omega)]); all_goals (with_reducible rfl)); simp only [Act.put, List.setIfInBounds_toArray, List.set_cons_zero, List.set_cons_succ]))
                      have K9 := K.al (.cells #[.string zeroC] 9 (0, 0))
                      refine LTree.only (by rfl) (Tree.wp_make (.slice (some ⟨v1.heap.size, 0, none⟩) 1 1) (v1.alloc (.cells #[.string zeroC] 9 (0, 0))) ?_ ⟨⟨(two_cells (K9.get 5 rfl)).1, (two_cells (K9.get 6 rfl)).1⟩, ?_⟩)
                      · go_simp
                      simp only [Act.put, List.setIfInBounds_toArray, List.set_cons_zero, List.set_cons_succ]
                      clear K
                      have K := K9
                      clear K9
                      generalize v1.heap.size = ge at *
                      generalize v1.alloc (.cells #[.string zeroC] 9 (0, 0)) = v2 at *
                      refine LTree.only (by rfl) (K.app_one srOk (.tmp 105) (.tmp 109) rfl 3 0 rfl rfl (e := zeroC) rfl rfl (by omega) ?_)
                      intro gp cp v3 K9 _
                      simp only [List.set] at K9
                      refine ⟨⟨(two_cells (K9.get 5 rfl)).1, (two_cells (K9.get 6 rfl)).1⟩, ?_⟩
                      simp only [Act.put, List.setIfInBounds_toArray, List.set_cons_zero, List.set_cons_succ]
                      clear K
                      have K := K9
                      clear K9
                      repeat (first | (refine LTree.take ?_ (by rfl) ?_ ?_; rotate_left; (· rintro w9 ⟨u0, u1⟩; go_simp; (try rw [if_neg (by omega)]); all_goals (with_reducible rfl)); simp only [Act.put, List.setIfInBounds_toArray, List.set_cons_zero, List.set_cons_succ]))
                      refine LTree.last (by rfl) (K.store1 5 rfl 22 (.tmp 111) (.tmp 110) rfl 0 (Env.slv gp (m0 + 1) cp) rfl rfl (by simp) seq_strs1 rfl rfl ?_)
                      intro v4 K9 _
                      simp only [List.set, List.setIfInBounds_toArray] at K9
                      simp only [Act.put]
                      clear K
                      have K := K9
                      clear K9
                      go_wp2_with fail
                      go_meet
                      have K9 := K.sub (T' := [_, _, _, _, _, _, _, _]) [1, 2, 3, 4, 5, 6, 7, 8] rfl (by simp) (by simp)
                      exact ⟨⟨#[]⟩, (A0 ++ [zeroC]), A1, zeroC, s1, gp, (m0 + 1), cp, p1, m1, c1, _, by omega, by omega, by omega, Lib.hid ⟨(by have h9 := HB.out.1.change ((change_ch (y := y) (b := 0) (s := (i : Int)) (sv := ⟨#[]⟩) (by have := hw.out; omega) 0).1.trans (by decide)) (change_ch (y := y) (b := 0) (s := (i : Int)) (sv := ⟨#[]⟩) (by have := hw.out; omega) 0).2; rw [val_t hw.out] at h9; exact h9), (HB.out.2.other ((change_ch (y := y) (b := 0) (s := (i : Int)) (sv := ⟨#[]⟩) (by have := hw.out; omega) 1).1.trans (by decide)) (change_ch (y := y) (b := 0) (s := (i : Int)) (sv := ⟨#[]⟩) (by have := hw.out; omega) 1).2)⟩, K9⟩
                    · have d3 : ((2 + (y : Int)) == 3) = false := by simp; omega
                      have d4 : ¬ (2 + (y : Int)) = 3 := by omega
                      have hw := Lib.hid (show y = 2 from by omega)
                      clear hF hy0 hy1
                      have K1 : Env w (wc.alloc (.cells #[.string s0] 9)) (Env.lst SR (Env.slv wc.heap.size 1 1) 1 [s0] :: _) := K.lit srOk [s0] 1 rfl (by decide)
                      have K2 : Env w ((wc.alloc (.cells #[.string s0] 9)).alloc (.cells #[.string s1] 9)) (Env.lst SR (Env.slv (wc.alloc (.cells #[.string s0] 9)).heap.size 1 1) 1 [s1] :: _) := K1.lit srOk [s1] 1 rfl (by decide)
                      obtain ⟨t0, t1⟩ := two_cells (K.get 5 rfl)
                      obtain ⟨t2, t3⟩ := two_cells (K1.get 6 rfl)
                      have hsz : (wc.alloc (.cells #[.string s0] 9)).heap.size = wc.heap.size + 1 := al_size wc _
                      rw [hsz] at K2
                      clear K K1 hsz
                      go_wp2_with (first
                        | (refine storesRow rfl K2 6 rfl 31 (.tmp 6) (.tmp 71) rfl #[Env.slv wc.heap.size 1 1, Env.slv (wc.heap.size + 1) 1 1] rfl rfl arr_info rfl (by simp [Value.oneCell', Env.slv]) ?_; intro w13 K9 _; simp only [List.set] at K9; simp only [Act.put]))
                      go_meet
                      have K := K9.sub (T' := [_, _, _, _, _, _, _, _]) [2, 3, 1, 0, 6, 7, 8, 9] rfl (by simp) (by simp)
                      have F0 := flush_ch (y := y) (b := 0) (s := (i : Int)) (sv := ⟨#[]⟩) hw.out 0
                      have F1 := flush_ch (y := y) (b := 0) (s := (i : Int)) (sv := ⟨#[]⟩) hw.out 1
                      exact ⟨⟨#[]⟩, [s0], [s1], s0, s1, _, 1, 1, _, 1, 1, _, by omega, by omega, by omega, Lib.hid ⟨HB.out.1.flush F0.1 F0.2, HB.out.2.flush F1.1 F1.2⟩, K⟩
                · obtain rfl : b2 = 1 := by omega
                  by_cases hy0 : y = 0
                  · have d1 : ((2 + (y : Int)) == 2) = true := by simp; omega
                    have hw := Lib.hid (show y < 1 from by omega)
                    clear hF hy0
                    obtain ⟨b0, b1, b2c, b3, b4, b5, b6, b7⟩ := ev_cells (K.get 0 rfl)
                    go_upto_region 19 with (first
                      | (have z9 := mk4; clear z9; go_at_call 12; ((with_reducible refine (K.next 6 rfl hzl _ (by first | assumption | decide | omega) (by first | assumption | decide | omega)).mono ?_); rintro r9 w9 ⟨dv, k9, rfl, hdv, hk9, K9, -⟩; simp only [List.set] at K9; clear K mk4; have K := K9; clear K9; have hdvb : dv ≤ 1000 := (by omega); have HVA := fun W => made_value dv W hdvb; have hkw : IntKind.i64.wrap (1 + (dv : Int)) = 1 + (dv : Int) := kwrap_one dv hdvb; have hkw2 : wrap64 (1 + (dv : Int)) = 1 + (dv : Int) := wrap_one dv hdvb))
                      | (go_at_call 13; ((with_reducible refine (HVA _).mono ?_); rintro r9 w11 ⟨rfl, hb⟩; have K9 := K.on hb; clear K hb; have K := K9; clear K9; generalize (⟨(valueL (1 + dv)).toArray⟩ : ByteArray) = sv at *; clear b0 b1 b2c b3 b4 b5 b6 b7; obtain ⟨b0, b1, b2c, b3, b4, b5, b6, b7⟩ := ev_cells (K.get 0 rfl); have f5 := K.free 0 rfl 5)))
                    clear hkw hkw2 f5 b0 b1 b2c b3 b4 b5 b6 b7
                    have K9 := K.put1 0 rfl (cs' := #[.bool false, .int .i64 0, .int .i64 (i : Int), .int .i64 (2 + (y : Int)), .int .i64 ((1 : Nat) : Int), .string sv, .int .i64 0, .string ⟨#[]⟩]) 5 (.string sv) rfl rfl
                    simp only [List.set] at K9
                    clear K
                    have K := K9
                    clear K9
                    obtain ⟨w12, hw12⟩ : ∃ W, (w11.setCell ⟨ge, 5, none⟩ (.string sv)) = W := ⟨_, rfl⟩
                    rw [hw12] at K
                    simp only [hw12]
                    clear hw12
                    obtain ⟨b0, b1, b2c, b3, b4, b5, b6, b7⟩ := ev_cells (K.get 0 rfl)
                    obtain ⟨t0, t1⟩ := two_cells (K.get 5 rfl)
                    have f5 := K.free 5 rfl 1
                    go_upto_region 20 with fail
                    clear t0 t1 f5 b0 b1 b2c b3 b4 b5 b6 b7
                    have K9 := K.put1 5 rfl (cs' := #[.string s0, .string sv]) 1 (.string sv) rfl rfl
                    simp only [List.set] at K9
                    clear K
                    have K := K9
                    clear K9
                    obtain ⟨w13, hw12⟩ : ∃ W, (w12.setCell ⟨gN, 1, none⟩ (.string sv)) = W := ⟨_, rfl⟩
                    rw [hw12] at K
                    simp only [hw12]
                    clear hw12
                    have hm4 : m1 ≤ 21 := by omega
                    refine LTree.start (fun W => W.cell? ⟨gA, 1, none⟩ = some (Env.slv p1 m1 c1) ∧ W.cell? ⟨gN, 1, none⟩ = some (.string sv)) (.take 0 (.take 1 (.take 2 (.take 3 (.take 4 (.take 5 (.take 6 (.only 7 (.only 8 (.take 9 (.only 10 (.done)))))))))))) (by kernel_rfl) (by kernel_rfl) (by kernel_rfl) (by kernel_rfl) ⟨(two_cells (K.drew.get 4 rfl)).2, (two_cells (K.drew.get 5 rfl)).2⟩ ?_
                    simp only [Tree.T.map, List.getElem?_toArray, List.getElem?_cons_zero, List.getElem?_cons_succ]
                    have K9 := K.drew
                    clear K
                    have K := K9
                    clear K9
                    generalize hv0 : World.drew w13 = v1 at *
                    clear hv0
                    repeat (first | (refine LTree.take ?_ (by rfl) ?_ ?_; rotate_left; (· rintro w9 ⟨u0, u1⟩; go_simp; (try rw [if_neg (by omega)]); all_goals (with_reducible rfl)); simp only [Act.put, List.setIfInBounds_toArray, List.set_cons_zero, List.set_cons_succ]))
                    have K9 := K.al (.cells #[.string sv] 9 (0, 0))
                    refine LTree.only (by rfl) (Tree.wp_make (.slice (some ⟨v1.heap.size, 0, none⟩) 1 1) (v1.alloc (.cells #[.string sv] 9 (0, 0))) ?_ ⟨⟨(two_cells (K9.get 5 rfl)).2, (two_cells (K9.get 6 rfl)).2⟩, ?_⟩)
                    · go_simp
                    simp only [Act.put, List.setIfInBounds_toArray, List.set_cons_zero, List.set_cons_succ]
                    clear K
                    have K := K9
                    clear K9
                    generalize v1.heap.size = ge at *
                    generalize v1.alloc (.cells #[.string sv] 9 (0, 0)) = v2 at *
                    refine LTree.only (by rfl) (K.app_one srOk (.tmp 88) (.tmp 92) rfl 4 0 rfl rfl (e := sv) rfl rfl (by omega) ?_)
                    intro gq cq v3 K9 _
                    simp only [List.set] at K9
                    refine ⟨⟨(two_cells (K9.get 5 rfl)).2, (two_cells (K9.get 6 rfl)).2⟩, ?_⟩
                    simp only [Act.put, List.setIfInBounds_toArray, List.set_cons_zero, List.set_cons_succ]
                    clear K
                    have K := K9
                    clear K9
                    repeat (first | (refine LTree.take ?_ (by rfl) ?_ ?_; rotate_left; (· rintro w9 ⟨u0, u1⟩; go_simp; (try rw [if_neg (by omega)]); all_goals (with_reducible rfl)); simp only [Act.put, List.setIfInBounds_toArray, List.set_cons_zero, List.set_cons_succ]))
                    refine LTree.last (by rfl) (K.store1 5 rfl 22 (.tmp 94) (.tmp 93) rfl 1 (Env.slv gq (m1 + 1) cq) rfl rfl (by simp) seq_strs1 rfl rfl ?_)
                    intro v4 K9 _
                    simp only [List.set, List.setIfInBounds_toArray] at K9
                    simp only [Act.put]
                    clear K
                    have K := K9
                    clear K9
                    go_wp2_with fail
                    go_meet
                    have K9 := K.sub (T' := [_, _, _, _, _, _, _, _]) [1, 2, 3, 4, 5, 6, 7, 8] rfl (by simp) (by simp)
                    exact ⟨sv, A0, (A1 ++ [sv]), s0, sv, p0, m0, c0, gq, (m1 + 1), cq, _, by omega, by omega, by omega, Lib.hid ⟨(HB.out.1.other ((change_ch (y := y) (b := 1) (s := (i : Int)) (sv := sv) (by have := hw.out; omega) 0).1.trans (by decide)) (change_ch (y := y) (b := 1) (s := (i : Int)) (sv := sv) (by have := hw.out; omega) 0).2), (by have h9 := HB.out.2.change ((change_ch (y := y) (b := 1) (s := (i : Int)) (sv := sv) (by have := hw.out; omega) 1).1.trans (by decide)) (change_ch (y := y) (b := 1) (s := (i : Int)) (sv := sv) (by have := hw.out; omega) 1).2; rw [val_w hw.out] at h9; exact h9)⟩, K9⟩
                  · have d1 : ((2 + (y : Int)) == 2) = false := by simp; omega
                    have d2 : ¬ (2 + (y : Int)) = 2 := by omega
                    by_cases hy1 : y = 1
                    · have d3 : ((2 + (y : Int)) == 3) = true := by simp; omega
                      have hw := Lib.hid (show y ≤ 1 ∧ 1 ≤ y from by omega)
                      clear hF hy0 hy1
                      obtain ⟨z0, z1⟩ := zT_two K 7 rfl
                      obtain ⟨t0, t1⟩ := two_cells (K.get 5 rfl)
                      have f5 := K.free 5 rfl 1
                      go_upto_region 23 with fail
                      clear z0 z1 t0 t1 f5
                      have K9 := K.put1 5 rfl (cs' := #[.string s0, .string zeroC]) 1 (.string zeroC) rfl rfl
                      simp only [List.set] at K9
                      clear K
                      have K := K9
                      clear K9
                      obtain ⟨w13, hw12⟩ : ∃ W, (wc.setCell ⟨gN, 1, none⟩ (.string zeroC)) = W := ⟨_, rfl⟩
                      rw [hw12] at K
                      simp only [hw12]
                      clear hw12
                      have hm4 : m1 ≤ 21 := by omega
                      refine LTree.start (fun W => W.cell? ⟨gA, 1, none⟩ = some (Env.slv p1 m1 c1) ∧ W.cell? ⟨gN, 1, none⟩ = some (.string zeroC)) (.take 0 (.take 1 (.take 2 (.take 3 (.take 4 (.take 5 (.take 6 (.only 7 (.only 8 (.take 9 (.only 10 (.done)))))))))))) (by kernel_rfl) (by kernel_rfl) (by kernel_rfl) (by kernel_rfl) ⟨(two_cells (K.drew.get 4 rfl)).2, (two_cells (K.drew.get 5 rfl)).2⟩ ?_
                      simp only [Tree.T.map, List.getElem?_toArray, List.getElem?_cons_zero, List.getElem?_cons_succ]
                      have K9 := K.drew
                      clear K
                      have K := K9
                      clear K9
                      generalize hv0 : World.drew w13 = v1 at *
                      clear hv0
                      repeat (first | (refine LTree.take ?_ (by rfl) ?_ ?_; rotate_left; (· rintro w9 ⟨u0, u1⟩; go_simp; (try rw [if_neg (by omega)]); all_goals (with_reducible rfl)); simp only [Act.put, List.setIfInBounds_toArray, List.set_cons_zero, List.set_cons_succ]))
                      have K9 := K.al (.cells #[.string zeroC] 9 (0, 0))
                      refine LTree.only (by rfl) (Tree.wp_make (.slice (some ⟨v1.heap.size, 0, none⟩) 1 1) (v1.alloc (.cells #[.string zeroC] 9 (0, 0))) ?_ ⟨⟨(two_cells (K9.get 5 rfl)).2, (two_cells (K9.get 6 rfl)).2⟩, ?_⟩)
                      · go_simp
                      simp only [Act.put, List.setIfInBounds_toArray, List.set_cons_zero, List.set_cons_succ]
                      clear K
                      have K := K9
                      clear K9
                      generalize v1.heap.size = ge at *
                      generalize v1.alloc (.cells #[.string zeroC] 9 (0, 0)) = v2 at *
                      refine LTree.only (by rfl) (K.app_one srOk (.tmp 105) (.tmp 109) rfl 4 0 rfl rfl (e := zeroC) rfl rfl (by omega) ?_)
                      intro gq cq v3 K9 _
                      simp only [List.set] at K9
                      refine ⟨⟨(two_cells (K9.get 5 rfl)).2, (two_cells (K9.get 6 rfl)).2⟩, ?_⟩
                      simp only [Act.put, List.setIfInBounds_toArray, List.set_cons_zero, List.set_cons_succ]
                      clear K
                      have K := K9
                      clear K9
                      repeat (first | (refine LTree.take ?_ (by rfl) ?_ ?_; rotate_left; (· rintro w9 ⟨u0, u1⟩; go_simp; (try rw [if_neg (by omega)]); all_goals (with_reducible rfl)); simp only [Act.put, List.setIfInBounds_toArray, List.set_cons_zero, List.set_cons_succ]))
                      refine LTree.last (by rfl) (K.store1 5 rfl 22 (.tmp 111) (.tmp 110) rfl 1 (Env.slv gq (m1 + 1) cq) rfl rfl (by simp) seq_strs1 rfl rfl ?_)
                      intro v4 K9 _
                      simp only [List.set, List.setIfInBounds_toArray] at K9
                      simp only [Act.put]
                      clear K
                      have K := K9
                      clear K9
                      go_wp2_with fail
                      go_meet
                      have K9 := K.sub (T' := [_, _, _, _, _, _, _, _]) [1, 2, 3, 4, 5, 6, 7, 8] rfl (by simp) (by simp)
                      exact ⟨⟨#[]⟩, A0, (A1 ++ [zeroC]), s0, zeroC, p0, m0, c0, gq, (m1 + 1), cq, _, by omega, by omega, by omega, Lib.hid ⟨(HB.out.1.other ((change_ch (y := y) (b := 1) (s := (i : Int)) (sv := ⟨#[]⟩) (by have := hw.out; omega) 0).1.trans (by decide)) (change_ch (y := y) (b := 1) (s := (i : Int)) (sv := ⟨#[]⟩) (by have := hw.out; omega) 0).2), (by have h9 := HB.out.2.change ((change_ch (y := y) (b := 1) (s := (i : Int)) (sv := ⟨#[]⟩) (by have := hw.out; omega) 1).1.trans (by decide)) (change_ch (y := y) (b := 1) (s := (i : Int)) (sv := ⟨#[]⟩) (by have := hw.out; omega) 1).2; rw [val_t hw.out] at h9; exact h9)⟩, K9⟩
                    · have d3 : ((2 + (y : Int)) == 3) = false := by simp; omega
                      have d4 : ¬ (2 + (y : Int)) = 3 := by omega
                      exact absurd (hF (by omega)) (by decide)
              case rest =>
                clear K HB hF
                obtain ⟨sv, A0', A1', s0', s1', p0', m0', c0', p1', m1', c1', k', hm0', hm1', hk', HB, K⟩ := hcut
                have HOK2 := Lib.hid (seqOk_more (y := y) (b := b2) (sv := sv) HOK.out hn hyb)
                have HRT := Lib.hid (fun W => durReturned_any (⟨false, 0, (i : Int), 2 + (y : Int), (b2 : Int), sv, 0, ⟨#[]⟩⟩ : Ev) W)
                go_upto_region 24 with fail
                refine Tree.start (fun W => W.heap[ge]? = some (.cells #[.bool false, .int .i64 0, .int .i64 (i : Int), .int .i64 (2 + (y : Int)), .int .i64 (b2 : Int), .string sv, .int .i64 0, .string ⟨#[]⟩] 41 (0, 0))) (.take 0 (.take 1 (.take 2 (.only 3 (.only 4 (.only 5 (.take 6 (.done)))))))) (by kernel_rfl) (by kernel_rfl) (by kernel_rfl) (by kernel_rfl) (K.drew.get 0 rfl) ?_
                simp only [Tree.T.map, List.getElem?_toArray, List.getElem?_cons_zero, List.getElem?_cons_succ]
                have K9 := K.drew
                clear K
                have K := K9
                clear K9
                generalize hv0 : World.drew wc = v1 at *
                clear hv0
                repeat (first | (refine Tree.take ?_ (by rfl) ?_ ?_; rotate_left; (· rintro w9 u0; go_simp; (try rw [if_neg (by omega)]); all_goals (with_reducible rfl)); simp only [Act.put, List.setIfInBounds_toArray, List.set_cons_zero, List.set_cons_succ]))
                refine Tree.take_load 41 (.tmp 9) (ge) _ (by rfl) rfl (by rfl) (fun w9 h9 => h9) Try.underlying41 rfl ev_info ?_
                simp only [Act.put, List.setIfInBounds_toArray, List.set_cons_zero, List.set_cons_succ]
                refine Tree.take_load 41 (.tmp 9) (ge) _ (by rfl) rfl (by rfl) (fun w9 h9 => h9) Try.underlying41 rfl ev_info ?_
                simp only [Act.put, List.setIfInBounds_toArray, List.set_cons_zero, List.set_cons_succ]
                refine Tree.only (by rfl) (Tree.wp_call 14 _ ?_ (HRT.out _) ?_)
                · go_simp
                rintro r9 v2 ⟨rfl, h9⟩
                replace K := K.on h9
                clear h9
                refine ⟨_, rfl, (K.get 0 rfl), ?_⟩
                simp only [Act.put, List.setIfInBounds_toArray, List.set_cons_zero, List.set_cons_succ]
                have K9 := K.al (.cells #[.bool false, .int .i64 0, .int .i64 (i : Int), .int .i64 (2 + (y : Int)), .int .i64 (b2 : Int), .string sv, .int .i64 0, .string ⟨#[]⟩, .bool true, .int .i64 0, .int .i64 (i : Int), .int .i64 (2 + (y : Int)), .int .i64 (b2 : Int), .string sv, .int .i64 0, .string ⟨#[]⟩] 41 (0, 0))
                refine Tree.only (by rfl) (Tree.wp_make (.slice (some ⟨v2.heap.size, 0, none⟩) 2 2) (v2.alloc (.cells #[.bool false, .int .i64 0, .int .i64 (i : Int), .int .i64 (2 + (y : Int)), .int .i64 (b2 : Int), .string sv, .int .i64 0, .string ⟨#[]⟩, .bool true, .int .i64 0, .int .i64 (i : Int), .int .i64 (2 + (y : Int)), .int .i64 (b2 : Int), .string sv, .int .i64 0, .string ⟨#[]⟩] 41 (0, 0))) ?_ ⟨(K9.get 1 rfl), ?_⟩)
                · go_simp
                simp only [Act.put, List.setIfInBounds_toArray, List.set_cons_zero, List.set_cons_succ]
                clear K
                have K := K9
                clear K9
                generalize v2.heap.size = gt at *
                generalize v2.alloc (.cells #[.bool false, .int .i64 0, .int .i64 (i : Int), .int .i64 (2 + (y : Int)), .int .i64 (b2 : Int), .string sv, .int .i64 0, .string ⟨#[]⟩, .bool true, .int .i64 0, .int .i64 (i : Int), .int .i64 (2 + (y : Int)), .int .i64 (b2 : Int), .string sv, .int .i64 0, .string ⟨#[]⟩] 41 (0, 0)) = v3 at *
                refine Tree.only (by rfl) (K.app_some vrOk (.tmp 112) (.tmp 116) rfl 2 rfl rfl (L := [(⟨false, 0, (i : Int), 2 + (y : Int), (b2 : Int), sv, 0, ⟨#[]⟩⟩ : Ev), (⟨true, 0, (i : Int), 2 + (y : Int), (b2 : Int), sv, 0, ⟨#[]⟩⟩ : Ev)]) (F := fun _ => True) rfl (lit_list (R := VR) (L := [(⟨false, 0, (i : Int), 2 + (y : Int), (b2 : Int), sv, 0, ⟨#[]⟩⟩ : Ev), (⟨true, 0, (i : Int), 2 + (y : Int), (b2 : Int), sv, 0, ⟨#[]⟩⟩ : Ev)]) (fr := (0, 0)) (K.get 0 rfl) trivial (by show (2 : Nat) ≤ maxLen; unfold maxLen; decide)) (Nat.succ_pos 1) (by show 2 * i + 2 ≤ 1000000; omega) ?_)
                intro gh ch v4 K9 _
                simp only [List.set] at K9
                refine ⟨(K9.get 1 rfl), ?_⟩
                simp only [Act.put, List.setIfInBounds_toArray, List.set_cons_zero, List.set_cons_succ]
                clear K
                have K := K9
                clear K9
                repeat (first | (refine Tree.take ?_ (by rfl) ?_ ?_; rotate_left; (· rintro w9 u0; go_simp; (try rw [if_neg (by omega)]); all_goals (with_reducible rfl)); simp only [Act.put, List.setIfInBounds_toArray, List.set_cons_zero, List.set_cons_succ]))
                refine Tree.ends ?_
                have hsq : seqL ys ++ [(⟨false, 0, (i : Int), 2 + (y : Int), (b2 : Int), sv, 0, ⟨#[]⟩⟩ : Ev), (⟨true, 0, (i : Int), 2 + (y : Int), (b2 : Int), sv, 0, ⟨#[]⟩⟩ : Ev)] = seqL (ys ++ [(⟨true, 0, (i : Int), 2 + (y : Int), (b2 : Int), sv, 0, ⟨#[]⟩⟩ : Ev)]) := by rw [seqL_snoc, List.append_assoc]; rfl
                rw [hsq] at K
                clear hsq
                have hl9 : (ys ++ [(⟨true, 0, (i : Int), 2 + (y : Int), (b2 : Int), sv, 0, ⟨#[]⟩⟩ : Ev)]).length = i + 1 := by rw [List.length_append, hn]; rfl
                have K9 := K.sub (T' := [_, _, _, _, _, _, _]) [2, 3, 4, 5, 6, 7, 8] rfl (by simp) (by simp)
                clear K
                go_wp2_with fail
                go_roundw
                case rel => exact ⟨i + 1, k', m0', m1', p0', p1', c0', c1', ys ++ [(⟨true, 0, (i : Int), 2 + (y : Int), (b2 : Int), sv, 0, ⟨#[]⟩⟩ : Ev)], A0', A1', s0', s1', _, rfl, by go_num, by omega, hl9, HOK2, HB, by omega, by omega, by omega, K9⟩
                case measure => simp [intOf]; omega
          | false =>
            clear hq
            obtain ⟨ha, hc, rfl, lh⟩ := K.any vrOk 0 rfl
            have l0 := K.list srOk 1 rfl
            have l1 := K.list srOk 2 rfl
            have lz := zT_list K 6 rfl
            have HSZ := seq2_sizes HOK.out (by omega)
            have HCE := Lib.hid (fun W (h : Below wc.heap.size wc W) => (show Calls Try.prog 17 #[.int .i64 2, .slice ha (2 * i) hc] W fun e w' => e = .returned (.int .i64 0) ∧ Below W.heap.size W w' from by rw [← HSZ.1]; exact refHCheck_any _ (seqL ys) 2 ha (2 * i) hc W (lh.same h)))
            have HAL := Lib.hid (fun W (h : Below wc.heap.size wc W) (z : Int) => H.allowed _ _ [zeroC, zeroC] (seqL ys) z (some zx) ha 2 zc (2 * i) hc W (lz.same h) (lh.same h) (by decide) (by omega))
            unfold SPost at HAL
            have HI0 := Lib.hid (HB.out.1.is HOK.out HSZ.2 (show [zeroC, zeroC][0]? = some zeroC from rfl))
            have HI1 := Lib.hid (HB.out.2.is HOK.out HSZ.2 (show [zeroC, zeroC][1]? = some zeroC from rfl))
            have HW0 := Lib.hid (fun W (h : Below wc.heap.size wc W) => l0.same h)
            have HW1 := Lib.hid (fun W (h : Below wc.heap.size wc W) => l1.same h)
            clear l0 l1 lz lh HSZ HB HOK
            have HK := Lib.hid K
            have hb := Below.refl wc.heap.size wc
            clear K
            go_wp2_with fail
            go_loopw [11] (fun x11 wr => ∃ j : Nat, x11 = .int .i64 (j : Int) ∧ j ≤ 2 ∧ Below wc.heap.size wc wr) (fun x11 _ => 2 - (intOf x11).toNat)
            case atStart => exact ⟨0, rfl, by omega, hb⟩
            case round =>
              clear hb
              obtain ⟨j, rfl, hj, hb⟩ := hrel
              obtain ⟨t0, t1⟩ := two_cells ((HK.out.on hb).get 3 rfl)
              have hjj : j = 0 ∨ j = 1 ∨ j = 2 := by omega
              rcases hjj with rfl | rfl | rfl
              · have hEX : ∀ x, x ∈ allowE [zeroC, zeroC] (seqL ys) 0 ↔ x ∈ A0 := HI0.out
                have HALJ := Lib.hid (fun W h => HAL.out W h 0)
                generalize allowE [zeroC, zeroC] (seqL ys) 0 = E at *
                have HT1 : withinB E A0 = true := DurMath.within_iff.2 fun s hs => (hEX s).1 hs
                have HT2 : withinB A0 E = true := DurMath.within_iff.2 fun s hs => (hEX s).2 hs
                have HWA := Lib.hid (fun W F a n c (hx : SList W F a n c E) (h : Below wc.heap.size wc W) => (show Calls Try.prog 16 #[.slice a n c, .slice (some ⟨p0, 0, none⟩) m0 c0] W fun e w' => e = .returned (.bool true) ∧ Below W.heap.size W w' from by rw [← HT1]; exact within_any _ _ E A0 _ _ n c m0 c0 W hx (HW0.out W h)))
                have HWB := Lib.hid (fun W F a n c (hx : SList W F a n c E) (h : Below wc.heap.size wc W) => (show Calls Try.prog 16 #[.slice (some ⟨p0, 0, none⟩) m0 c0, .slice a n c] W fun e w' => e = .returned (.bool true) ∧ Below W.heap.size W w' from by rw [← HT2]; exact within_any _ _ A0 E _ _ m0 c0 n c W (HW0.out W h) hx))
                clear hEX HT1 HT2
                go_wp2_with (first
                  | (go_at_call 15; ((with_reducible refine (HALJ.out _ hb).mono ?_); rintro r9 w21 ⟨ea, en, ec, rfl, le, h9⟩; replace hb := hb.trans (h9.mono hb.size); clear h9 t0 t1; obtain ⟨t0, t1⟩ := two_cells ((HK.out.on hb).get 3 rfl)))
                  | (go_at_call 16; (first
                    | ((with_reducible refine (HWA.out _ _ _ _ _ le hb).mono ?_); rintro r9 w22 ⟨rfl, h9⟩; replace le := le.same h9; replace hb := hb.trans (h9.mono hb.size); clear h9 t0 t1; obtain ⟨t0, t1⟩ := two_cells ((HK.out.on hb).get 3 rfl))
                    | ((with_reducible refine (HWB.out _ _ _ _ _ le hb).mono ?_); rintro r9 w23 ⟨rfl, h9⟩; replace hb := hb.trans (h9.mono hb.size); clear h9 t0 t1 le))))
                go_roundw
                case rel => exact ⟨1, by go_num, by omega, hb⟩
                case measure => simp [intOf]
              · have hEX : ∀ x, x ∈ allowE [zeroC, zeroC] (seqL ys) 1 ↔ x ∈ A1 := HI1.out
                have HALJ := Lib.hid (fun W h => HAL.out W h 1)
                generalize allowE [zeroC, zeroC] (seqL ys) 1 = E at *
                have HT1 : withinB E A1 = true := DurMath.within_iff.2 fun s hs => (hEX s).1 hs
                have HT2 : withinB A1 E = true := DurMath.within_iff.2 fun s hs => (hEX s).2 hs
                have HWA := Lib.hid (fun W F a n c (hx : SList W F a n c E) (h : Below wc.heap.size wc W) => (show Calls Try.prog 16 #[.slice a n c, .slice (some ⟨p1, 0, none⟩) m1 c1] W fun e w' => e = .returned (.bool true) ∧ Below W.heap.size W w' from by rw [← HT1]; exact within_any _ _ E A1 _ _ n c m1 c1 W hx (HW1.out W h)))
                have HWB := Lib.hid (fun W F a n c (hx : SList W F a n c E) (h : Below wc.heap.size wc W) => (show Calls Try.prog 16 #[.slice (some ⟨p1, 0, none⟩) m1 c1, .slice a n c] W fun e w' => e = .returned (.bool true) ∧ Below W.heap.size W w' from by rw [← HT2]; exact within_any _ _ A1 E _ _ m1 c1 n c W (HW1.out W h) hx))
                clear hEX HT1 HT2
                go_wp2_with (first
                  | (go_at_call 15; ((with_reducible refine (HALJ.out _ hb).mono ?_); rintro r9 w21 ⟨ea, en, ec, rfl, le, h9⟩; replace hb := hb.trans (h9.mono hb.size); clear h9 t0 t1; obtain ⟨t0, t1⟩ := two_cells ((HK.out.on hb).get 3 rfl)))
                  | (go_at_call 16; (first
                    | ((with_reducible refine (HWA.out _ _ _ _ _ le hb).mono ?_); rintro r9 w22 ⟨rfl, h9⟩; replace le := le.same h9; replace hb := hb.trans (h9.mono hb.size); clear h9 t0 t1; obtain ⟨t0, t1⟩ := two_cells ((HK.out.on hb).get 3 rfl))
                    | ((with_reducible refine (HWB.out _ _ _ _ _ le hb).mono ?_); rintro r9 w23 ⟨rfl, h9⟩; replace hb := hb.trans (h9.mono hb.size); clear h9 t0 t1 le))))
                go_roundw
                case rel => exact ⟨2, by go_num, by omega, hb⟩
                case measure => simp [intOf]
              · clear t0 t1
                go_wp2_with (first
                  | (go_at_call 17; ((with_reducible refine (HCE.out _ hb).mono ?_); rintro r9 w24 ⟨rfl, h9⟩; replace hb := hb.trans (h9.mono hb.size); clear h9))
                  | (go_at_call 6; ((with_reducible refine (HA.out _).mono ?_); rintro r9 w25 ⟨rfl, h9⟩; replace hb := hb.trans (h9.mono hb.size); clear h9)))
                go_ret
                exact ⟨rfl, (HK.out.on hb).hb⟩
  · rw [decide_eq_false hn3] at HL
    go_enter Try.func4, Try.ntmps4
    go_wp2_with (first
      | (go_at_call 8; ((with_reducible refine (HL.out _).mono ?_); rintro r9 w9 ⟨rfl, rfl⟩))
      | (go_at_call 6; ((with_reducible refine (HA.out _).mono ?_); rintro r9 w9 ⟨rfl, h9⟩)))
    go_ret
    exact ⟨rfl, h9⟩
end Go.Proofs.Ytnmhnjjehglcfaa.Ents

/- DurableSequential: for operations one after the other what is allowed is what a block was at the last flush, and everything that was made of it since. No condition. -/
namespace Go.Proofs.Ytnmhnjjehglcfaa.durableSequential
open Go.ChangeShapes Go.WideShapes Go.ChangeAt Go.RowKit
open Go.ChangeMaps (open_string shut_string)
set_option linter.unusedVariables false

theorem own : ownKnob Try.prog.godebug = none := by kernel_rfl
theorem laidOut : laidOutB Try.prog = true := by kernel_rfl

theorem walk (a0 : Option Addr) (l0 c0 : Nat) (z0 : List Int) (w : World) (w0 : IsRow .i64 w a0 l0 c0 z0) :
    Calls Try.prog 4 #[.slice a0 l0 c0] w fun e w' => e = .returned (.bool true) ∧ Below w.heap.size w w' := by
  exact Ents.durSeqLaw_any Ents.durableOk a0 l0 c0 z0 w w0

set_option maxRecDepth 100000 in
theorem lifted (os : Os) (started : os.Started) (H : Type) (enc : TypeId × Value → H) :
    ReturnsInHanded {} Try.checked os 4 .any (Rows.durableSequentialSpec.pre6 enc Try.prog Try.f4 Rows.durableSequentialRow.domain false) (Rows.durableSequentialSpec.post enc Try.prog Try.f4 false true false false) := by
  refine returnsInHanded_of_change (C := Try.checked) own started (by kernel_rfl) Try.func4
    (ChangeSpec.witness6 (enc := enc) (C := Try.checked) false ⟨#[], #[.slice none 0 0], []⟩ 8 (by kernel_rfl) (by kernel_rfl) (by kernel_rfl) (by kernel_rfl)) ?_
  intro W base args ds gs before hval0 hW hcnd _
  have hval : ∀ (j : Nat) t v, Try.f4.params[j]? = some t → args[j]? = some v → Value.okWide Try.prog W .any base t v := hval0
  have hW' := hW
  obtain ⟨p, q, hA0, hV, rfl, hfz, hnd⟩ := hW
  have hA : DataW.TrodAll enc Try.prog W 0 (fun _ => true) true Try.f4.params.toList args.toList ds p := hA0
  rw [Try.params4] at hA hval
  obtain ⟨v0, vs0, d0, ds0, p0, q0, hargs, rfl, rfl, h0, r0⟩ := trodAll_cons hA
  obtain ⟨rfl, rfl, rfl⟩ := trodAll_nil r0
  obtain rfl : args = #[v0] := by cases args; simp_all
  obtain ⟨rfl, rfl⟩ := trodVars_none hV
  have k0' := h0
  have lt0 : ∀ x ∈ p0, x.block < W.heap.size := by obtain ⟨m, hm⟩ := h0; exact DataW.trod_lt m _ _ _ hm
  obtain ⟨a0, l0, c0, rfl⟩ := okWide_slice Try.underlying26 (hval 0 26 v0 rfl rfl)
  obtain ⟨z0, w0⟩ : ∃ zs, IsRow .i64 W a0 l0 c0 zs := by
    obtain ⟨fuel, hf⟩ := h0
    rcases open_ints Try.underlying26 Try.underlying3 (by kernel_rfl) hf with ⟨hcs, _⟩ | ⟨x, l, c, zs, hcs, _, hl, hm, hz, _, hcell, hwz⟩
    · simp [Value.cells] at hcs
      obtain ⟨rfl, rfl, rfl⟩ := hcs
      exact ⟨[], .inl ⟨rfl, rfl, rfl, rfl⟩⟩
    · simp [Value.cells] at hcs
      obtain ⟨rfl, rfl, rfl⟩ := hcs
      exact ⟨zs, .inr ⟨_, rfl, hl, hm, by simpa using hz, hcell, hwz⟩⟩
  clear hA0 hval0
  refine (walk a0 l0 c0 z0 W w0).mono fun e W' ⟨he, bel⟩ => ?_
  subst he
  exact ⟨_, rfl, _, _, _, [], _, [], hW', trodAll_mk1 (shut_bool Try.underlying4 _), (trodAll_cons_mk (Below.trod laidOut (by kernel_rfl) (of_decide_eq_true (by kernel_rfl)) k0' bel lt0) trodAll_mk0), rfl, bel.frame _, fun h => by cases h⟩

theorem over : Rows.durableSequentialRow.holds Try.pinned (OpenSpec.ofChange Rows.durableSequentialSpec) :=
  OpenClaim.holds_of_wide 4 Try.f4 rfl rfl rfl rfl rfl rfl rfl ⟨rfl, rfl, rfl, rfl, rfl⟩ rfl rfl rfl rfl rfl (by kernel_rfl) Try.func4 (by kernel_rfl)
    (of_decide_eq_true (by kernel_rfl)) (by unfold Func.isWrapper; first | (rw [if_pos (by decide +kernel)]; kernel_rfl) | (rw [if_neg (by decide +kernel)]; exact ⟨rfl, rfl⟩))
    (fun os started H enc _ => lifted os started H enc)
end Go.Proofs.Ytnmhnjjehglcfaa.durableSequential

namespace Go.Proofs.Ytnmhnjjehglcfaa
theorem durableSequential_holds : Rows.DurableSequentialSaid := durableSequential.over
end Go.Proofs.Ytnmhnjjehglcfaa
