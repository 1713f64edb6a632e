/- Texts that belong together, part 1. -/

/- Entries of the map, lists of them, and what layer 8 of the document says of them. Plain mathematics. -/
namespace Go.Proofs.Ytljobnfilnbefaa.EntMath
structure Ent where
  block : Int
  kind : Int
  version : Int
  move : Int
  zone : Int
  offset : Int
deriving DecidableEq
def zeroE : Ent := ⟨0, 0, 0, 0, 0, 0⟩
/-- may an entry be in a shard -/
def okE (e : Ent) : Bool :=
  (decide (e.kind = 1) || decide (e.kind = 2)) && decide (1 ≤ e.version) && decide (e.version ≤ 1099511627776) && decide (0 ≤ e.move) && decide (e.move ≤ 255) && decide (0 ≤ e.block) && decide (0 ≤ e.zone) && decide (0 ≤ e.offset)
/-- is the entry at a place as it must be, beside the one ahead of it -/
def okAt (L : List Ent) : Nat → Bool
  | 0 => match L[0]? with | none => true | some e => okE e
  | i + 1 => match L[i]?, L[i + 1]? with | some d, some e => okE e && decide (d.block < e.block) | _, _ => true
/-- is it a shard -/
def validB (L : List Ent) : Bool := (List.range L.length).all (okAt L)
/-- the first place whose entry has at least this block -/
def place (L : List Ent) (b : Int) : Nat := L.findIdx fun e => decide (b ≤ e.block)
/-- the entry of a block -/
def lookE (L : List Ent) (b : Int) : Option Ent := L.find? fun e => decide (e.block = b)
/-- an entry put in its place -/
def ins : List Ent → Ent → List Ent
  | [], e => [e]
  | x :: L, e => if x.block < e.block then x :: ins L e else if x.block = e.block then e :: L else e :: x :: L
def findE (L : List Ent) (b : Int) : Option Ent := if validB L = true then lookE L b else none
/-- what Install gives -/
def newer (L : List Ent) (e : Ent) : Bool := validB L && okE e && match lookE L e.block with | none => true | some x => decide (x.version < e.version)
def installL (L : List Ent) (e : Ent) : List Ent := if validB L = true then (if newer L e = true then ins L e else L) else []
def installE (L : List Ent) (e : Ent) : Ent := if validB L = true ∧ okE e = true then (lookE L e.block).getD zeroE else zeroE
/-- what Relocate gives -/
def moves (L : List Ent) (b v fz fo tz to m : Int) : Bool := match findE L b with
  | none => false
  | some x => decide (x.version = v) && decide (x.zone = fz) && decide (x.offset = fo) && decide (0 ≤ tz) && decide (0 ≤ to) && decide (0 ≤ m) && decide (m ≤ 255)
def moved (x : Ent) (tz to m : Int) : Ent := ⟨x.block, x.kind, x.version, m, tz, to⟩
def relocL (L : List Ent) (b v fz fo tz to m : Int) : List Ent :=
  if validB L = true then (if moves L b v fz fo tz to m = true then (match lookE L b with | none => L | some x => ins L (moved x tz to m)) else L) else []
/-- what Drop gives -/
def gone (cut : Int) (e : Ent) : Bool := decide (e.kind = 2) && decide (e.version < cut)
def stayL (L : List Ent) (cut : Int) : List Ent := if validB L = true then L.filter (fun e => !gone cut e) else []
def goneL (L : List Ent) (cut : Int) : List Ent := if validB L = true then L.filter (gone cut) else []

/-! a shard -/
def Asc (L : List Ent) : Prop := L.Pairwise fun x y => x.block < y.block
theorem okAt_iff {L : List Ent} {i : Nat} {e : Ent} (h : L[i]? = some e) : okAt L i = true ↔ okE e = true ∧ ∀ d, 0 < i → L[i - 1]? = some d → d.block < e.block := by
  cases i with
  | zero =>
    simp only [okAt, h]
    exact ⟨fun h => ⟨h, fun _ h => absurd h (by omega)⟩, fun h => h.1⟩
  | succ i =>
    simp only [okAt, h, Nat.add_sub_cancel]
    cases hd : L[i]? with
    | none =>
      have := (List.getElem?_eq_some_iff.1 h).1
      rw [List.getElem?_eq_none_iff] at hd
      omega
    | some d =>
      simp only [Bool.and_eq_true, decide_eq_true_eq]
      exact ⟨fun h => ⟨h.1, fun d' _ h' => by obtain rfl := Option.some.inj h'; exact h.2⟩, fun h => ⟨h.1, h.2 d (by omega) rfl⟩⟩
theorem valid_at {L : List Ent} (h : validB L = true) {i : Nat} {e : Ent} (he : L[i]? = some e) : okAt L i = true := by
  have hi := (List.getElem?_eq_some_iff.1 he).1
  exact List.all_eq_true.1 h i (List.mem_range.2 hi)
theorem valid_iff {L : List Ent} : validB L = true ↔ (∀ e ∈ L, okE e = true) ∧ Asc L := by
  constructor
  · intro h
    refine ⟨fun e he => ?_, ?_⟩
    · obtain ⟨i, hi⟩ := List.mem_iff_getElem?.1 he
      exact ((okAt_iff hi).1 (valid_at h hi)).1
    · rw [Asc, List.pairwise_iff_getElem]
      have step : ∀ k i (hi : i < L.length) (hj : i + k + 1 < L.length), L[i].block < L[i + k + 1].block := by
        intro k
        induction k with
        | zero =>
          intro i hi hj
          have h2 := (okAt_iff (List.getElem?_eq_getElem hj)).1 (valid_at h (List.getElem?_eq_getElem hj))
          exact h2.2 L[i] (by omega) (by simp only [Nat.add_zero, Nat.add_sub_cancel]; exact List.getElem?_eq_getElem hi)
        | succ k ih =>
          intro i hi hj
          have h1 := ih i hi (by omega)
          have h2 := (okAt_iff (List.getElem?_eq_getElem hj)).1 (valid_at h (List.getElem?_eq_getElem hj))
          have h3 := h2.2 (L[i + k + 1]'(by omega)) (by omega) (by
            rw [show i + (k + 1) + 1 - 1 = i + k + 1 by omega]
            exact List.getElem?_eq_getElem _)
          exact Int.lt_trans h1 h3
      intro i j hi hj hij
      have := step (j - i - 1) i hi (by omega)
      simp only [show i + (j - i - 1) + 1 = j by omega] at this
      exact this
  · rintro ⟨h1, h2⟩
    rw [Asc, List.pairwise_iff_getElem] at h2
    refine List.all_eq_true.2 fun i hi => ?_
    have hi := List.mem_range.1 hi
    refine (okAt_iff (List.getElem?_eq_getElem hi)).2 ⟨h1 _ (List.getElem_mem hi), fun d h0 hd => ?_⟩
    obtain ⟨hl, rfl⟩ := List.getElem?_eq_some_iff.1 hd
    exact h2 (i - 1) i hl hi (by omega)
theorem valid_nil : validB [] = true := rfl
/-! looking up -/
theorem look_cons (x : Ent) (L : List Ent) (b : Int) : lookE (x :: L) b = if x.block = b then some x else lookE L b := by
  unfold lookE
  rw [List.find?_cons]
  by_cases h : x.block = b <;> simp [h]
theorem look_block {L : List Ent} {b : Int} {x : Ent} (h : lookE L b = some x) : x.block = b := by
  have := List.find?_some h
  simpa using this
theorem look_mem {L : List Ent} {b : Int} {x : Ent} (h : lookE L b = some x) : x ∈ L := List.mem_of_find?_eq_some h
theorem look_none {L : List Ent} {b : Int} (h : ∀ x ∈ L, x.block ≠ b) : lookE L b = none := by
  unfold lookE
  rw [List.find?_eq_none]
  intro x hx
  simpa using h x hx
theorem look_asc {L : List Ent} (h : Asc L) {x : Ent} (hx : x ∈ L) : lookE L x.block = some x := by
  induction L with
  | nil => cases hx
  | cons y L ih =>
    rw [look_cons]
    rw [Asc, List.pairwise_cons] at h
    rcases List.mem_cons.1 hx with rfl | hx
    · rw [if_pos rfl]
    · have := h.1 x hx
      rw [if_neg (by omega)]
      exact ih h.2 hx
/-- lists that ascend are equal where they say the same of each block -/
theorem asc_ext {L M : List Ent} (hL : Asc L) (hM : Asc M) (h : ∀ b, lookE L b = lookE M b) : L = M := by
  induction L generalizing M with
  | nil =>
    cases M with
    | nil => rfl
    | cons m M =>
      have := h m.block
      rw [look_cons, if_pos rfl] at this
      cases this
  | cons l L ih =>
    cases M with
    | nil =>
      have := h l.block
      rw [look_cons, if_pos rfl] at this
      cases this
    | cons m M =>
      have hl := hL
      have hm := hM
      rw [Asc, List.pairwise_cons] at hl hm
      have h1 := h l.block
      rw [look_cons, if_pos rfl] at h1
      have h2 := h m.block
      rw [look_cons m M, if_pos rfl] at h2
      have h3 : l = m := by
        rcases List.mem_cons.1 (look_mem h1.symm) with h4 | h4
        · exact h4
        · rcases List.mem_cons.1 (look_mem h2) with h5 | h5
          · exact h5.symm
          · have := hm.1 l h4
            have := hl.1 m h5
            omega
      subst h3
      congr 1
      refine ih hl.2 hm.2 fun b => ?_
      have h4 := h b
      rw [look_cons, look_cons] at h4
      by_cases hb : l.block = b
      · subst hb
        rw [look_none (fun x hx => by have := hl.1 x hx; omega), look_none (fun x hx => by have := hm.1 x hx; omega)]
      · rwa [if_neg hb, if_neg hb] at h4
/-! the place -/
theorem place_cons (x : Ent) (L : List Ent) (b : Int) : place (x :: L) b = if b ≤ x.block then 0 else place L b + 1 := by
  unfold place
  rw [List.findIdx_cons]
  by_cases h : b ≤ x.block <;> simp [h]
theorem place_le (L : List Ent) (b : Int) : place L b ≤ L.length := List.findIdx_le_length
theorem place_before {L : List Ent} {b : Int} {i : Nat} {x : Ent} (h : L[i]? = some x) (hi : i < place L b) : x.block < b := by
  obtain ⟨hl, rfl⟩ := List.getElem?_eq_some_iff.1 h
  have := List.not_of_lt_findIdx hi
  simpa using this
theorem place_at {L : List Ent} {b : Int} {x : Ent} (h : L[place L b]? = some x) : b ≤ x.block := by
  obtain ⟨hl, rfl⟩ := List.getElem?_eq_some_iff.1 h
  have := @List.findIdx_getElem Ent (fun e => decide (b ≤ e.block)) L hl
  simp only [decide_eq_true_eq] at this
  exact this
theorem place_is {L : List Ent} {b : Int} {k : Nat} (h1 : ∀ i x, i < k → L[i]? = some x → x.block < b) (h2 : ∀ x, L[k]? = some x → b ≤ x.block) (hk : k ≤ L.length) : place L b = k := by
  rcases Nat.lt_trichotomy (place L b) k with h | h | h
  · have hl : place L b < L.length := by omega
    have h3 := h1 _ _ h (List.getElem?_eq_getElem hl)
    have h4 := place_at (List.getElem?_eq_getElem hl)
    omega
  · exact h
  · have hl : k < L.length := by have := place_le L b; omega
    have h3 := h2 _ (List.getElem?_eq_getElem hl)
    have h4 := place_before (List.getElem?_eq_getElem hl) h
    omega
theorem look_place {L : List Ent} (h : Asc L) (b : Int) : lookE L b = (match L[place L b]? with | none => none | some x => if x.block = b then some x else none) := by
  induction L with
  | nil => rfl
  | cons y L ih =>
    rw [look_cons, place_cons]
    rw [Asc, List.pairwise_cons] at h
    by_cases h1 : b ≤ y.block
    · rw [if_pos h1]
      simp only [List.getElem?_cons_zero]
      by_cases h2 : y.block = b
      · rw [if_pos h2, if_pos h2]
      · rw [if_neg h2, if_neg h2]
        exact look_none fun x hx => by have := h.1 x hx; omega
    · rw [if_neg h1, if_neg (by omega)]
      simp only [List.getElem?_cons_succ]
      exact ih h.2
/-! putting in -/
theorem ins_place {L : List Ent} (e : Ent) (h : lookE L e.block = none) (hA : Asc L) : L.take (place L e.block) ++ e :: L.drop (place L e.block) = ins L e := by
  induction L with
  | nil => rfl
  | cons x L ih =>
    rw [look_cons] at h
    rw [Asc, List.pairwise_cons] at hA
    rw [place_cons, ins]
    by_cases h1 : e.block ≤ x.block
    · have h2 : x.block ≠ e.block := fun h2 => by rw [if_pos h2] at h; cases h
      rw [if_pos h1, if_neg (by omega), if_neg h2]
      rfl
    · rw [if_neg (show ¬ x.block = e.block by omega)] at h
      rw [if_neg h1, if_pos (by omega)]
      simp only [List.take_succ_cons, List.drop_succ_cons, List.cons_append]
      rw [ih h hA.2]
theorem ins_over {L : List Ent} (e x : Ent) (h : lookE L e.block = some x) (hA : Asc L) : L.take (place L e.block) ++ e :: L.drop (place L e.block + 1) = ins L e := by
  induction L with
  | nil => cases h
  | cons y L ih =>
    rw [look_cons] at h
    rw [Asc, List.pairwise_cons] at hA
    rw [place_cons, ins]
    by_cases h1 : e.block ≤ y.block
    · have h2 : y.block = e.block := by
        by_cases h2 : y.block = e.block
        · exact h2
        · rw [if_neg h2] at h
          have h3 := hA.1 x (look_mem h)
          have h4 := look_block h
          omega
      rw [if_pos h1, if_neg (by omega), if_pos h2]
      rfl
    · rw [if_neg (show ¬ y.block = e.block by omega)] at h
      rw [if_neg h1, if_pos (by omega)]
      simp only [List.take_succ_cons, List.drop_succ_cons, List.cons_append]
      rw [ih h hA.2]
theorem ins_set {L : List Ent} (e x : Ent) (h : lookE L e.block = some x) (hA : Asc L) : L.set (place L e.block) e = ins L e := by
  rw [← ins_over e x h hA]
  have hlp := look_place hA e.block
  have hlt : place L e.block < L.length := by
    rcases Nat.lt_or_ge (place L e.block) L.length with hl | hl
    · exact hl
    · rw [List.getElem?_eq_none hl, h] at hlp
      cases hlp
  exact List.set_eq_take_append_cons_drop.trans (if_pos hlt)
theorem look_ins (L : List Ent) (e : Ent) (b : Int) : lookE (ins L e) b = if e.block = b then some e else lookE L b := by
  induction L with
  | nil => rw [ins, look_cons]
  | cons x L ih =>
    rw [ins]
    by_cases h1 : x.block < e.block
    · rw [if_pos h1, look_cons, ih, look_cons]
      by_cases h2 : e.block = b
      · rw [if_neg (by omega), if_pos h2, if_pos h2]
      · rw [if_neg h2, if_neg h2]
    · rw [if_neg h1]
      by_cases h2 : x.block = e.block
      · rw [if_pos h2, look_cons, look_cons]
        by_cases h3 : e.block = b
        · rw [if_pos h3, if_pos h3]
        · rw [if_neg h3, if_neg h3, if_neg (by omega)]
      · rw [if_neg h2, look_cons]
theorem mem_ins {L : List Ent} {e x : Ent} (h : x ∈ ins L e) : x = e ∨ x ∈ L := by
  induction L with
  | nil => rw [ins] at h; exact .inl (List.mem_singleton.1 h)
  | cons y L ih =>
    rw [ins] at h
    split at h
    · rcases List.mem_cons.1 h with h | h
      · exact .inr (List.mem_cons.2 (.inl h))
      · exact (ih h).imp id (fun h => List.mem_cons_of_mem _ h)
    · split at h
      · rcases List.mem_cons.1 h with h | h
        · exact .inl h
        · exact .inr (List.mem_cons_of_mem _ h)
      · rcases List.mem_cons.1 h with h | h
        · exact .inl h
        · exact .inr h
theorem asc_ins {L : List Ent} (e : Ent) (h : Asc L) : Asc (ins L e) := by
  induction L with
  | nil => exact List.pairwise_singleton _ _
  | cons y L ih =>
    have h0 := h
    rw [Asc, List.pairwise_cons] at h
    rw [ins]
    by_cases h1 : y.block < e.block
    · rw [if_pos h1, Asc, List.pairwise_cons]
      refine ⟨fun x hx => ?_, ih h.2⟩
      rcases mem_ins hx with rfl | hx
      · exact h1
      · exact h.1 x hx
    · rw [if_neg h1]
      by_cases h2 : y.block = e.block
      · rw [if_pos h2, Asc, List.pairwise_cons]
        exact ⟨fun x hx => by have := h.1 x hx; omega, h.2⟩
      · rw [if_neg h2, Asc, List.pairwise_cons]
        refine ⟨fun x hx => ?_, h0⟩
        rcases List.mem_cons.1 hx with rfl | hx
        · omega
        · have := h.1 x hx; omega
theorem valid_ins {L : List Ent} {e : Ent} (h : validB L = true) (he : okE e = true) : validB (ins L e) = true := by
  obtain ⟨h1, h2⟩ := valid_iff.1 h
  refine valid_iff.2 ⟨fun x hx => ?_, asc_ins e h2⟩
  rcases mem_ins hx with rfl | hx
  · exact he
  · exact h1 x hx
/-! dropping -/
theorem asc_filter {L : List Ent} (p : Ent → Bool) (h : Asc L) : Asc (L.filter p) := h.sublist List.filter_sublist
theorem valid_filter {L : List Ent} (p : Ent → Bool) (h : validB L = true) : validB (L.filter p) = true := by
  obtain ⟨h1, h2⟩ := valid_iff.1 h
  exact valid_iff.2 ⟨fun x hx => h1 x (List.mem_filter.1 hx).1, asc_filter p h2⟩
theorem look_filter {L : List Ent} (p : Ent → Bool) (h : Asc L) (b : Int) : lookE (L.filter p) b = (lookE L b).filter p := by
  induction L with
  | nil => rfl
  | cons x L ih =>
    rw [Asc, List.pairwise_cons] at h
    rw [look_cons, List.filter_cons]
    by_cases hp : p x = true
    · rw [if_pos hp, look_cons]
      by_cases h1 : x.block = b
      · rw [if_pos h1, if_pos h1]; simp only [Option.filter, hp, if_true]
      · rw [if_neg h1, if_neg h1]; exact ih h.2
    · rw [if_neg hp]
      by_cases h1 : x.block = b
      · rw [if_pos h1, ih h.2, look_none (fun y hy => by have := h.1 y hy; omega)]
        simp only [Option.filter, hp]
        rfl
      · rw [if_neg h1]; exact ih h.2
end Go.Proofs.Ytljobnfilnbefaa.EntMath

/- What installs, relocations and drops do to the entry of a block. Plain mathematics. -/
namespace Go.Proofs.Ytljobnfilnbefaa.EntMath
theorem newer_iff {L : List Ent} {e : Ent} (h : validB L = true) (he : okE e = true) : newer L e = true ↔ ∀ x, lookE L e.block = some x → x.version < e.version := by
  unfold newer
  rw [h, he]
  cases hx : lookE L e.block with
  | none => simp
  | some x => simp
theorem install_eq {L : List Ent} {e : Ent} (h : validB L = true) : installL L e = if newer L e = true then ins L e else L := by unfold installL; rw [if_pos h]
theorem newer_ok {L : List Ent} {e : Ent} (h : newer L e = true) : okE e = true := by
  unfold newer at h
  simp only [Bool.and_eq_true] at h
  exact h.1.2
theorem valid_install {L : List Ent} {e : Ent} (h : validB L = true) : validB (installL L e) = true := by
  rw [install_eq h]
  split
  · exact valid_ins h (newer_ok (by assumption))
  · exact h
/-- the entry of a block behind an install -/
def best (o : Option Ent) (e : Ent) : Option Ent := match o with | none => some e | some x => if x.version < e.version then some e else some x
theorem look_install {L : List Ent} {e : Ent} (h : validB L = true) (he : okE e = true) (c : Int) : lookE (installL L e) c = if e.block = c then best (lookE L c) e else lookE L c := by
  rw [install_eq h]
  by_cases hn : newer L e = true
  · rw [if_pos hn, look_ins]
    have hv := (newer_iff h he).1 hn
    by_cases hc : e.block = c
    · subst hc
      rw [if_pos rfl, if_pos rfl]
      unfold best
      cases hx : lookE L e.block with
      | none => rfl
      | some x => exact (if_pos (hv x hx)).symm
    · rw [if_neg hc, if_neg hc]
  · rw [if_neg hn]
    by_cases hc : e.block = c
    · subst hc
      rw [if_pos rfl]
      unfold best
      cases hx : lookE L e.block with
      | none => exact absurd ((newer_iff h he).2 (fun x hx' => by rw [hx] at hx'; cases hx')) hn
      | some x =>
        have hlt : ¬ x.version < e.version := fun hlt => hn ((newer_iff h he).2 (fun y hy => by rw [hx] at hy; obtain rfl := Option.some.inj hy; exact hlt))
        exact (if_neg hlt).symm
    · rw [if_neg hc]
theorem ins_length (L : List Ent) (e : Ent) : (ins L e).length ≤ L.length + 1 := by
  induction L with
  | nil => simp [ins]
  | cons x L ih =>
    rw [ins]
    split
    · simp only [List.length_cons]; omega
    · split <;> simp only [List.length_cons] <;> omega
theorem install_length (L : List Ent) (e : Ent) : (installL L e).length ≤ L.length + 1 := by
  unfold installL
  split
  · split
    · exact ins_length L e
    · omega
  · simp
theorem valid_ext {L M : List Ent} (hL : validB L = true) (hM : validB M = true) (h : ∀ b, lookE L b = lookE M b) : L = M := asc_ext (valid_iff.1 hL).2 (valid_iff.1 hM).2 h
theorem best_comm {o : Option Ent} {a b : Ent} (h : a.version ≠ b.version) : best (best o a) b = best (best o b) a := by
  cases o with
  | none =>
    simp only [best]
    by_cases h1 : a.version < b.version
    · rw [if_pos h1, if_neg (by omega)]
    · rw [if_neg h1, if_pos (by omega)]
  | some x =>
    have e1 : best (some x) a = if x.version < a.version then some a else some x := rfl
    have e2 : best (some x) b = if x.version < b.version then some b else some x := rfl
    rw [e1, e2]
    by_cases h1 : x.version < a.version <;> by_cases h2 : x.version < b.version
    · rw [if_pos h1, if_pos h2]
      show (if a.version < b.version then some b else some a) = (if b.version < a.version then some a else some b)
      by_cases h3 : a.version < b.version
      · rw [if_pos h3, if_neg (by omega)]
      · rw [if_neg h3, if_pos (by omega)]
    · rw [if_pos h1, if_neg h2]
      show (if a.version < b.version then some b else some a) = (if x.version < a.version then some a else some x)
      rw [if_neg (by omega), if_pos h1]
    · rw [if_neg h1, if_pos h2]
      show (if x.version < b.version then some b else some x) = (if b.version < a.version then some a else some b)
      rw [if_pos h2, if_neg (by omega)]
    · rw [if_neg h1, if_neg h2]
      show (if x.version < b.version then some b else some x) = (if x.version < a.version then some a else some x)
      rw [if_neg h2, if_neg h1]
/-- two installs in either order -/
theorem install_comm {L : List Ent} {a b : Ent} (h : validB L = true) (ha : okE a = true) (hb : okE b = true) (hab : ¬ (a.block = b.block ∧ a.version = b.version)) : installL (installL L a) b = installL (installL L b) a := by
  refine valid_ext (valid_install (valid_install h)) (valid_install (valid_install h)) fun c => ?_
  rw [look_install (valid_install h) hb, look_install h ha, look_install (valid_install h) ha, look_install h hb]
  by_cases h1 : a.block = c <;> by_cases h2 : b.block = c <;> simp only [h1, h2, if_true, if_false]
  exact best_comm fun hv => hab ⟨by omega, hv⟩
theorem install_some {L : List Ent} {a : Ent} (h : validB L = true) (ha : okE a = true) : ∃ x, lookE (installL L a) a.block = some x := by
  rw [look_install h ha, if_pos rfl]
  unfold best
  cases lookE L a.block with
  | none => exact ⟨_, rfl⟩
  | some x =>
    simp only
    split
    · exact ⟨_, rfl⟩
    · exact ⟨_, rfl⟩
theorem look_nonempty {L : List Ent} {b : Int} {x : Ent} (h : lookE L b = some x) : L ≠ [] := by
  rintro rfl
  cases h
theorem install_nonempty {L : List Ent} {a b : Ent} (h : validB L = true) (hb : okE b = true) : installL (installL L a) b ≠ [] := by
  obtain ⟨x, hx⟩ := install_some (valid_install (e := a) h) hb
  exact look_nonempty hx
/-! relocating -/
theorem find_look {L : List Ent} (h : validB L = true) (b : Int) : findE L b = lookE L b := by unfold findE; rw [if_pos h]
theorem moves_iff {L : List Ent} {b v fz fo tz to m : Int} {x : Ent} (h : validB L = true) (hx : lookE L b = some x) : moves L b v fz fo tz to m = true ↔ x.version = v ∧ x.zone = fz ∧ x.offset = fo ∧ 0 ≤ tz ∧ 0 ≤ to ∧ 0 ≤ m ∧ m ≤ 255 := by
  unfold moves
  rw [find_look h, hx]
  simp [Bool.and_eq_true, and_assoc]
theorem reloc_moved {L : List Ent} {b v fz fo tz to m : Int} {x : Ent} (h : validB L = true) (hx : lookE L b = some x) (hm : moves L b v fz fo tz to m = true) : relocL L b v fz fo tz to m = ins L (moved x tz to m) := by
  unfold relocL
  rw [if_pos h, if_pos hm, hx]
theorem reloc_same {L : List Ent} {b v fz fo tz to m : Int} (h : validB L = true) (hm : moves L b v fz fo tz to m = false) : relocL L b v fz fo tz to m = L := by
  unfold relocL
  rw [if_pos h, if_neg (by rw [hm]; decide)]
theorem ok_moved {x : Ent} {tz to m : Int} (h : okE x = true) (h1 : 0 ≤ tz) (h2 : 0 ≤ to) (h3 : 0 ≤ m) (h4 : m ≤ 255) : okE (moved x tz to m) = true := by
  unfold okE moved at *
  simp only [Bool.and_eq_true, Bool.or_eq_true, decide_eq_true_eq] at *
  omega
theorem valid_reloc {L : List Ent} {b v fz fo tz to m : Int} (h : validB L = true) : validB (relocL L b v fz fo tz to m) = true := by
  cases hm : moves L b v fz fo tz to m
  · rw [reloc_same h hm]; exact h
  · cases hx : lookE L b with
    | none =>
      unfold moves at hm
      rw [find_look h, hx] at hm
      cases hm
    | some x =>
      rw [reloc_moved h hx hm]
      have h2 := (moves_iff h hx).1 hm
      exact valid_ins h (ok_moved ((valid_iff.1 h).1 x (look_mem hx)) h2.2.2.2.1 h2.2.2.2.2.1 h2.2.2.2.2.2.1 h2.2.2.2.2.2.2)
theorem look_reloc {L : List Ent} {b v fz fo tz to m : Int} {x : Ent} (h : validB L = true) (hx : lookE L b = some x) (hm : moves L b v fz fo tz to m = true) (c : Int) : lookE (relocL L b v fz fo tz to m) c = if b = c then some (moved x tz to m) else lookE L c := by
  rw [reloc_moved h hx hm, look_ins]
  have : (moved x tz to m).block = b := show x.block = b from look_block hx
  rw [this]
theorem reloc_length (L : List Ent) (b v fz fo tz to m : Int) : (relocL L b v fz fo tz to m).length ≤ L.length + 1 := by
  unfold relocL
  split
  · split
    · split
      · omega
      · exact ins_length _ _
    · omega
  · simp
/-- a relocation and an install of different blocks in either order -/
theorem reloc_install {L : List Ent} {b v fz fo tz to m : Int} {x e : Ent} (h : validB L = true) (he : okE e = true) (hx : lookE L b = some x) (hb : b ≠ e.block) (hm : moves L b v fz fo tz to m = true) :
    moves (installL L e) b v fz fo tz to m = true ∧ installL (relocL L b v fz fo tz to m) e = relocL (installL L e) b v fz fo tz to m := by
  have hx2 : lookE (installL L e) b = some x := by rw [look_install h he, if_neg (fun h => hb h.symm)]; exact hx
  have hm2 : moves (installL L e) b v fz fo tz to m = true := (moves_iff (valid_install h) hx2).2 ((moves_iff h hx).1 hm)
  refine ⟨hm2, valid_ext (valid_install (valid_reloc h)) (valid_reloc (valid_install h)) fun c => ?_⟩
  rw [look_install (valid_reloc h) he, look_reloc h hx hm, look_reloc (valid_install h) hx2 hm2, look_install h he]
  by_cases h1 : b = c
  · rw [if_neg (by omega), if_pos h1, if_pos h1]
  · rw [if_neg h1, if_neg h1]
/-! dropping -/
theorem stay_eq {L : List Ent} {c : Int} (h : validB L = true) : stayL L c = L.filter (fun e => !gone c e) := by unfold stayL; rw [if_pos h]
theorem gone_eq {L : List Ent} {c : Int} (h : validB L = true) : goneL L c = L.filter (gone c) := by unfold goneL; rw [if_pos h]
theorem valid_stay {L : List Ent} {c : Int} (h : validB L = true) : validB (stayL L c) = true := by rw [stay_eq h]; exact valid_filter _ h
theorem stay_gone {L : List Ent} {c : Int} (h : validB L = true) : (stayL L c).length + (goneL L c).length = L.length := by
  rw [stay_eq h, gone_eq h]
  induction L with
  | nil => rfl
  | cons x L ih =>
    have ih2 : (L.filter (fun e => !gone c e)).length + (L.filter (gone c)).length = L.length := by
      have hs : validB L = true := by
        obtain ⟨h1, h2⟩ := valid_iff.1 h
        exact valid_iff.2 ⟨fun e he => h1 e (List.mem_cons_of_mem _ he), (List.pairwise_cons.1 h2).2⟩
      exact ih hs
    rw [List.filter_cons, List.filter_cons]
    cases gone c x <;> simp only [Bool.not_false, Bool.not_true, if_true, List.length_cons] <;> simp <;> omega
theorem stay_again {L : List Ent} {c : Int} (h : validB L = true) : stayL (stayL L c) c = stayL L c ∧ goneL (stayL L c) c = [] := by
  rw [stay_eq (valid_stay h), gone_eq (valid_stay h), stay_eq h]
  constructor
  · rw [List.filter_filter]
    congr 1
    funext e
    cases gone c e <;> rfl
  · rw [List.filter_filter, List.filter_eq_nil_iff]
    intro e _
    cases gone c e <;> decide
theorem stay_two {L : List Ent} {p q : Int} (h : validB L = true) : stayL (stayL L p) q = stayL L (max p q) := by
  rw [stay_eq (valid_stay h), stay_eq h, stay_eq h, List.filter_filter]
  congr 1
  funext e
  unfold gone
  by_cases hk : e.kind = 2
  · simp only [hk, decide_true, Bool.true_and]
    by_cases h1 : e.version < p <;> by_cases h2 : e.version < q
    · simp [h1, h2, show e.version < max p q by omega]
    · simp [h1, h2, show e.version < max p q by omega]
    · simp [h1, h2, show e.version < max p q by omega]
    · simp [h1, h2, show ¬ e.version < max p q by omega]
  · simp [hk]
theorem find_stay {L : List Ent} {c : Int} (h : validB L = true) {x : Ent} (hx : x ∈ L) : (findE (stayL L c) x.block).isSome = !gone c x := by
  rw [find_look (valid_stay h), stay_eq h, look_filter _ (valid_iff.1 h).2, look_asc (valid_iff.1 h).2 hx]
  cases hg : gone c x <;> simp [Option.filter, hg]
end Go.Proofs.Ytljobnfilnbefaa.EntMath

/- Maps: lists of shards, and what layer 9 of the document says of them. Plain mathematics. -/
namespace Go.Proofs.Ytljobnfilnbefaa.EntMath
def okShard (n i : Nat) (L : List Ent) : Bool := validB L && L.all fun e => decide (e.block % (n : Int) = (i : Int))
/-- is it a map -/
def validM (Ls : List (List Ent)) : Bool := decide (1 ≤ Ls.length) && decide (Ls.length ≤ 8) && (List.range Ls.length).all fun i => okShard Ls.length i (Ls.getD i [])
def stripe (Ls : List (List Ent)) (b : Int) : Int := if b < 0 ∨ Ls.length = 0 then -1 else b % (Ls.length : Int)
/-- the number of the shard of a block -/
def st (Ls : List (List Ent)) (b : Int) : Nat := (b % (Ls.length : Int)).toNat
def shardOf (Ls : List (List Ent)) (b : Int) : List Ent := Ls.getD (st Ls b) []
def lookM (Ls : List (List Ent)) (b : Int) : Option Ent := if validM Ls = true ∧ 0 ≤ b then lookE (shardOf Ls b) b else none
/-- what Install gives -/
def newerM (Ls : List (List Ent)) (e : Ent) : Bool := validM Ls && decide (0 ≤ e.block) && newer (shardOf Ls e.block) e
def installM (Ls : List (List Ent)) (e : Ent) : List (List Ent) := if newerM Ls e = true then Ls.set (st Ls e.block) (installL (shardOf Ls e.block) e) else Ls
def installME (Ls : List (List Ent)) (e : Ent) : Ent := if validM Ls = true ∧ 0 ≤ e.block then installE (shardOf Ls e.block) e else zeroE
/-- what Relocate gives -/
def movesM (Ls : List (List Ent)) (b v fz fo tz to m : Int) : Bool := validM Ls && decide (0 ≤ b) && moves (shardOf Ls b) b v fz fo tz to m
def relocM (Ls : List (List Ent)) (b v fz fo tz to m : Int) : List (List Ent) := if movesM Ls b v fz fo tz to m = true then Ls.set (st Ls b) (relocL (shardOf Ls b) b v fz fo tz to m) else Ls
/-- what Drop gives -/
def goneM (Ls : List (List Ent)) (i cut : Int) : List Ent := if validM Ls = true ∧ 0 ≤ i ∧ i < (Ls.length : Int) then goneL (Ls.getD i.toNat []) cut else []
def dropM (Ls : List (List Ent)) (i cut : Int) : List (List Ent) := if goneM Ls i cut = [] then Ls else Ls.set i.toNat (stayL (Ls.getD i.toNat []) cut)
/-- all entries, ascending -/
def allM (Ls : List (List Ent)) : List Ent := if validM Ls = true then Ls.flatten.foldl ins [] else []
/-! a map -/
theorem okShard_iff {n i : Nat} {L : List Ent} : okShard n i L = true ↔ validB L = true ∧ ∀ e : Ent, e ∈ L → e.block % (n : Int) = (i : Int) := by simp [okShard]
theorem getD_of {Ls : List (List Ent)} {i : Nat} {L : List Ent} (h : Ls[i]? = some L) : Ls.getD i [] = L := by rw [List.getD_eq_getElem?_getD, h]; rfl
theorem validM_iff {Ls : List (List Ent)} : validM Ls = true ↔ (1 ≤ Ls.length ∧ Ls.length ≤ 8) ∧ ∀ (i : Nat) L, Ls[i]? = some L → validB L = true ∧ ∀ e : Ent, e ∈ L → e.block % (Ls.length : Int) = (i : Int) := by
  unfold validM
  simp only [Bool.and_eq_true, decide_eq_true_eq, List.all_eq_true, List.mem_range]
  constructor
  · rintro ⟨h1, h2⟩
    refine ⟨h1, fun i L hL => ?_⟩
    have := h2 i (List.getElem?_eq_some_iff.1 hL).1
    rw [getD_of hL] at this
    exact okShard_iff.1 this
  · rintro ⟨h1, h2⟩
    refine ⟨h1, fun i hi => ?_⟩
    have hL : Ls[i]? = some (Ls[i]'hi) := List.getElem?_eq_getElem hi
    rw [getD_of hL]
    exact okShard_iff.2 (h2 i _ hL)
theorem validM_no {Ls : List (List Ent)} (h : ¬ (1 ≤ Ls.length ∧ Ls.length ≤ 8)) : validM Ls = false := by
  cases hv : validM Ls
  · rfl
  · exact absurd (validM_iff.1 hv).1 h
theorem validM_bad {Ls : List (List Ent)} {i : Nat} {L : List Ent} (hL : Ls[i]? = some L) (h : okShard Ls.length i L = false) : validM Ls = false := by
  cases hv : validM Ls
  · rfl
  · rw [okShard_iff.2 ((validM_iff.1 hv).2 i L hL)] at h; cases h
theorem validM_all {Ls : List (List Ent)} (h1 : 1 ≤ Ls.length) (h2 : Ls.length ≤ 8) (h : ∀ i, i < Ls.length → okShard Ls.length i (Ls.getD i []) = true) : validM Ls = true := by
  unfold validM
  simp only [Bool.and_eq_true, decide_eq_true_eq, List.all_eq_true, List.mem_range]
  exact ⟨⟨h1, h2⟩, h⟩
theorem st_lt {Ls : List (List Ent)} (h : validM Ls = true) (b : Int) : st Ls b < Ls.length := by
  have h1 := (validM_iff.1 h).1
  unfold st
  have h2 := Int.emod_lt_of_pos b (show (0 : Int) < (Ls.length : Int) by omega)
  have h3 := Int.emod_nonneg b (show (Ls.length : Int) ≠ 0 by omega)
  omega
theorem stripe_eq {Ls : List (List Ent)} (h : validM Ls = true) {b : Int} (hb : 0 ≤ b) : stripe Ls b = (st Ls b : Int) := by
  have h1 := (validM_iff.1 h).1
  have h3 := Int.emod_nonneg b (show (Ls.length : Int) ≠ 0 by omega)
  unfold stripe st
  rw [if_neg (by omega)]
  omega
theorem shard_at {Ls : List (List Ent)} (h : validM Ls = true) (b : Int) : Ls[st Ls b]? = some (shardOf Ls b) := by
  have hi := st_lt h b
  have : Ls[st Ls b]? = some (Ls[st Ls b]'hi) := List.getElem?_eq_getElem hi
  rw [this]
  unfold shardOf
  rw [getD_of this]
theorem shard_valid {Ls : List (List Ent)} (h : validM Ls = true) (b : Int) : validB (shardOf Ls b) = true := ((validM_iff.1 h).2 _ _ (shard_at h b)).1
theorem tmod_nat {b : Int} (n : Nat) (hb : 0 ≤ b) : b.tmod (n : Int) = b % (n : Int) := Int.tmod_eq_emod_of_nonneg hb
end Go.Proofs.Ytljobnfilnbefaa.EntMath

/- All entries of a map, one put in after the other. Plain mathematics. -/
namespace Go.Proofs.Ytljobnfilnbefaa.EntMath
theorem mem_fold {M A : List Ent} {x : Ent} (h : x ∈ M.foldl ins A) : x ∈ M ∨ x ∈ A := by
  induction M generalizing A with
  | nil => exact .inr h
  | cons y M ih =>
    rw [List.foldl_cons] at h
    rcases ih h with h1 | h1
    · exact .inl (List.mem_cons_of_mem _ h1)
    · rcases mem_ins h1 with rfl | h2
      · exact .inl (List.mem_cons_self ..)
      · exact .inr h2
theorem asc_fold (M : List Ent) {A : List Ent} (h : Asc A) : Asc (M.foldl ins A) := by
  induction M generalizing A with
  | nil => exact h
  | cons y M ih => exact ih (asc_ins y h)
theorem fold_len (M A : List Ent) : (M.foldl ins A).length ≤ A.length + M.length := by
  induction M generalizing A with
  | nil => simp
  | cons y M ih =>
    rw [List.foldl_cons, List.length_cons]
    have h1 := ih (ins A y)
    have h2 := ins_length A y
    omega
/-- what is there when the first k entries of shard i, and all of those ahead of it, were put in -/
def outM (Ls : List (List Ent)) (i : Nat) (L : List Ent) (k : Nat) : List Ent := ((Ls.take i).flatten ++ L.take k).foldl ins []
theorem outM_asc (Ls : List (List Ent)) (i : Nat) (L : List Ent) (k : Nat) : Asc (outM Ls i L k) := asc_fold _ List.Pairwise.nil
theorem outM_next {Ls : List (List Ent)} {i : Nat} {L : List Ent} {k : Nat} {e : Ent} (he : L[k]? = some e) : outM Ls i L (k + 1) = ins (outM Ls i L k) e := by
  unfold outM
  rw [List.take_add_one, he, ← List.append_assoc, List.foldl_append]
  rfl
theorem outM_row {Ls : List (List Ent)} {i : Nat} {L M : List Ent} (hL : Ls[i]? = some L) : outM Ls i L L.length = outM Ls (i + 1) M 0 := by
  unfold outM
  rw [List.take_length, List.take_add_one, hL, List.flatten_append, List.take_zero, List.append_nil]
  simp
theorem outM_zero (Ls : List (List Ent)) (i : Nat) (L M : List Ent) : outM Ls i L 0 = outM Ls i M 0 := by unfold outM; simp
theorem outM_nil (Ls : List (List Ent)) (L : List Ent) : outM Ls 0 L 0 = [] := by unfold outM; simp
theorem outM_end {Ls : List (List Ent)} (h : validM Ls = true) (L : List Ent) {n : Nat} (hn : Ls.length = n) : outM Ls n L 0 = allM Ls := by
  unfold outM allM
  rw [if_pos h, List.take_zero, List.append_nil, List.take_of_length_le (by omega)]
theorem outM_ne {Ls : List (List Ent)} (h : validM Ls = true) {i : Nat} {L : List Ent} (hL : Ls[i]? = some L) {k : Nat} {e : Ent} (he : L[k]? = some e) (x : Ent) (hx : x ∈ outM Ls i L k) : x.block ≠ e.block := by
  obtain ⟨-, hv⟩ := validM_iff.1 h
  rcases mem_fold hx with hx | hx
  · rcases List.mem_append.1 hx with hx | hx
    · obtain ⟨M, hM, hxM⟩ := List.mem_flatten.1 hx
      obtain ⟨t, ht, hMt⟩ := List.mem_iff_getElem.1 hM
      rw [List.length_take] at ht
      have hMt' : Ls[t]? = some M := by rw [← hMt, List.getElem_take]; exact List.getElem?_eq_getElem _
      have h1 := (hv t M hMt').2 x hxM
      have h2 := (hv i L hL).2 e (List.mem_of_getElem? he)
      intro hxe
      rw [hxe] at h1
      omega
    · obtain ⟨t, ht, hxt⟩ := List.mem_iff_getElem.1 hx
      rw [List.length_take] at ht
      rw [List.getElem_take] at hxt
      have hasc := (valid_iff.1 (hv i L hL).1).2
      rw [Asc, List.pairwise_iff_getElem] at hasc
      obtain ⟨hk, rfl⟩ := List.getElem?_eq_some_iff.1 he
      have := hasc t k (by omega) hk (by omega)
      rw [hxt] at this
      omega
  · cases hx
theorem flat_take_le (Ls : List (List Ent)) (i : Nat) : ((Ls.take i).flatten).length ≤ Ls.flatten.length := by
  have := congrArg (fun l => (List.flatten l).length) (List.take_append_drop i Ls)
  simp only [List.flatten_append, List.length_append] at this
  omega
theorem outM_len {Ls : List (List Ent)} {i : Nat} {L : List Ent} (hL : Ls[i]? = some L) (k : Nat) : (outM Ls i L k).length ≤ Ls.flatten.length := by
  unfold outM
  refine Nat.le_trans (fold_len _ _) ?_
  have h1 := flat_take_le Ls (i + 1)
  rw [List.take_add_one, hL, List.flatten_append, List.length_append] at h1
  simp only [List.length_nil, Nat.zero_add, List.length_append, List.length_take]
  simp only [Option.toList_some, List.flatten_cons, List.flatten_nil, List.append_nil] at h1
  omega
/-- the place that is found from behind -/
theorem ins_behind {L : List Ent} {e : Ent} {t : Nat} (hA : Asc L) (hne : ∀ x : Ent, x ∈ L → x.block ≠ e.block) (ht : t ≤ L.length) (h1 : ∀ (j : Nat) (x : Ent), t ≤ j → L[j]? = some x → e.block < x.block) (h2 : t = 0 ∨ ∃ p x, t = p + 1 ∧ L[p]? = some x ∧ x.block ≤ e.block) : (L.take t ++ [e]) ++ L.drop t = ins L e := by
  have hp : place L e.block = t := by
    refine place_is (fun j x hj hx => ?_) (fun x hx => Int.le_of_lt (h1 t x (Nat.le_refl _) hx)) ht
    rcases h2 with rfl | ⟨p, y, rfl, hy, hle⟩
    · omega
    · have h3 : x.block ≤ y.block := by
        obtain ⟨hj', rfl⟩ := List.getElem?_eq_some_iff.1 hx
        obtain ⟨hp', rfl⟩ := List.getElem?_eq_some_iff.1 hy
        rw [Asc, List.pairwise_iff_getElem] at hA
        rcases Nat.lt_or_ge j p with h | h
        · exact Int.le_of_lt (hA j p hj' hp' h)
        · obtain rfl : j = p := by omega
          exact Int.le_refl _
      have h4 := hne x (List.mem_of_getElem? hx)
      omega
  have hl : lookE L e.block = none := look_none hne
  have := ins_place e hl hA
  rw [hp] at this
  rw [← this]
  simp
end Go.Proofs.Ytljobnfilnbefaa.EntMath

/- What installs, relocations and drops do to the entry of a block of a map. Plain mathematics. -/
namespace Go.Proofs.Ytljobnfilnbefaa.EntMath
theorem lookM_at {Ls : List (List Ent)} (h : validM Ls = true) {c : Int} (hc : 0 ≤ c) : lookM Ls c = lookE (shardOf Ls c) c := by unfold lookM; rw [if_pos ⟨h, hc⟩]
theorem st_set (Ls : List (List Ent)) (i : Nat) (M : List Ent) (c : Int) : st (Ls.set i M) c = st Ls c := by unfold st; rw [List.length_set]
theorem shardOf_set {Ls : List (List Ent)} {i : Nat} (hi : i < Ls.length) (M : List Ent) (c : Int) : shardOf (Ls.set i M) c = if st Ls c = i then M else shardOf Ls c := by
  unfold shardOf
  rw [st_set, List.getD_eq_getElem?_getD, List.getD_eq_getElem?_getD, List.getElem?_set]
  by_cases h : i = st Ls c
  · subst h
    simp [hi]
  · rw [if_neg h, if_neg (fun e => h e.symm)]
theorem set_valid {Ls : List (List Ent)} (h : validM Ls = true) {i : Nat} {M : List Ent} (hM : validB M = true) (hb : ∀ e : Ent, e ∈ M → e.block % (Ls.length : Int) = (i : Int)) : validM (Ls.set i M) = true := by
  obtain ⟨h1, h2⟩ := validM_iff.1 h
  refine validM_iff.2 ⟨by rw [List.length_set]; exact h1, fun j L hL => ?_⟩
  rw [List.length_set]
  rw [List.getElem?_set] at hL
  by_cases hij : i = j
  · subst hij
    rw [if_pos rfl] at hL
    by_cases hi : i < Ls.length
    · rw [if_pos hi] at hL
      obtain rfl := Option.some.inj hL
      exact ⟨hM, hb⟩
    · rw [if_neg hi] at hL; cases hL
  · rw [if_neg hij] at hL
    exact h2 j L hL
theorem set_self {Ls : List (List Ent)} {i : Nat} {L : List Ent} (h : Ls[i]? = some L) : Ls.set i L = Ls := by
  obtain ⟨hi, rfl⟩ := List.getElem?_eq_some_iff.1 h
  exact List.set_getElem_self hi
theorem st_block {Ls : List (List Ent)} (h : validM Ls = true) (b : Int) : (st Ls b : Int) = b % (Ls.length : Int) := by
  have h1 := (validM_iff.1 h).1
  have h3 := Int.emod_nonneg b (show (Ls.length : Int) ≠ 0 by omega)
  unfold st
  omega
theorem shard_blocks {Ls : List (List Ent)} (h : validM Ls = true) (b : Int) (e : Ent) (he : e ∈ shardOf Ls b) : e.block % (Ls.length : Int) = (st Ls b : Int) := ((validM_iff.1 h).2 _ _ (shard_at h b)).2 e he
theorem mem_install {L : List Ent} {e x : Ent} (h : x ∈ installL L e) : x = e ∨ x ∈ L := by
  unfold installL at h
  split at h
  · split at h
    · exact mem_ins h
    · exact .inr h
  · cases h
theorem ok_block {e : Ent} (h : okE e = true) : 0 ≤ e.block := by
  unfold okE at h
  simp only [Bool.and_eq_true, decide_eq_true_eq] at h
  exact h.1.1.2
theorem installM_set {Ls : List (List Ent)} {e : Ent} (h : validM Ls = true) (he : okE e = true) : installM Ls e = Ls.set (st Ls e.block) (installL (shardOf Ls e.block) e) := by
  have hb := ok_block he
  unfold installM newerM
  rw [h]
  simp only [Bool.true_and, decide_eq_true hb]
  cases hn : newer (shardOf Ls e.block) e
  · rw [if_neg (by decide), install_eq (shard_valid h e.block), hn, if_neg (by decide), set_self (shard_at h e.block)]
  · rw [if_pos rfl]
theorem validM_install {Ls : List (List Ent)} {e : Ent} (h : validM Ls = true) (he : okE e = true) : validM (installM Ls e) = true := by
  rw [installM_set h he]
  refine set_valid h (valid_install (shard_valid h _)) fun x hx => ?_
  rcases mem_install hx with rfl | hx
  · rw [st_block h]
  · exact shard_blocks h _ x hx
theorem look_other {Ls : List (List Ent)} {b c : Int} (hs : st Ls c = st Ls b) : shardOf Ls c = shardOf Ls b := by unfold shardOf; rw [hs]
theorem look_installM {Ls : List (List Ent)} {e : Ent} (h : validM Ls = true) (he : okE e = true) {c : Int} (hc : 0 ≤ c) : lookM (installM Ls e) c = if e.block = c then best (lookM Ls c) e else lookM Ls c := by
  rw [lookM_at (validM_install h he) hc, lookM_at h hc, installM_set h he, shardOf_set (st_lt h _)]
  by_cases hs : st Ls c = st Ls e.block
  · rw [if_pos hs, look_install (shard_valid h _) he, look_other hs]
  · rw [if_neg hs, if_neg (fun hce => hs (by rw [hce]))]
theorem newerM_is {Ls : List (List Ent)} {e : Ent} (h : validM Ls = true) (he : okE e = true) : newerM Ls e = match lookM Ls e.block with | none => true | some x => decide (x.version < e.version) := by
  have hb := ok_block he
  rw [lookM_at h hb]
  unfold newerM newer
  rw [h, shard_valid h, he, decide_eq_true hb]
  simp only [Bool.true_and]
  all_goals (cases lookE (shardOf Ls e.block) e.block <;> rfl)
theorem installME_is {Ls : List (List Ent)} {e : Ent} (h : validM Ls = true) (he : okE e = true) : installME Ls e = (lookM Ls e.block).getD zeroE := by
  have hb := ok_block he
  rw [lookM_at h hb]
  unfold installME installE
  rw [if_pos ⟨h, hb⟩, if_pos ⟨shard_valid h _, he⟩]
/-! relocating -/
theorem relocM_set {Ls : List (List Ent)} {b v fz fo tz to m : Int} (h : validM Ls = true) (hb : 0 ≤ b) : relocM Ls b v fz fo tz to m = Ls.set (st Ls b) (relocL (shardOf Ls b) b v fz fo tz to m) := by
  unfold relocM movesM
  rw [h]
  simp only [Bool.true_and, decide_eq_true hb]
  cases hm : moves (shardOf Ls b) b v fz fo tz to m
  · rw [if_neg (by decide), reloc_same (shard_valid h b) hm, set_self (shard_at h b)]
  · rw [if_pos rfl]
theorem mem_reloc {L : List Ent} {b v fz fo tz to m : Int} {x : Ent} (h : validB L = true) (hx : x ∈ relocL L b v fz fo tz to m) : x.block = b ∨ x ∈ L := by
  cases hm : moves L b v fz fo tz to m
  · rw [reloc_same h hm] at hx; exact .inr hx
  · cases hy : lookE L b with
    | none =>
      unfold moves at hm
      rw [find_look h, hy] at hm
      cases hm
    | some y =>
      rw [reloc_moved h hy hm] at hx
      rcases mem_ins hx with rfl | hx
      · exact .inl (show y.block = b from look_block hy)
      · exact .inr hx
theorem validM_reloc {Ls : List (List Ent)} {b v fz fo tz to m : Int} (h : validM Ls = true) : validM (relocM Ls b v fz fo tz to m) = true := by
  by_cases hb : 0 ≤ b
  · rw [relocM_set h hb]
    refine set_valid h (valid_reloc (shard_valid h b)) fun x hx => ?_
    rcases mem_reloc (shard_valid h b) hx with hx | hx
    · rw [hx, st_block h]
    · exact shard_blocks h _ x hx
  · have : relocM Ls b v fz fo tz to m = Ls := by
      unfold relocM movesM
      rw [h]
      simp [hb]
    rw [this]; exact h
/-- the entry of a block behind a relocation -/
def movedO (o : Option Ent) (v fz fo tz to m : Int) : Option Ent := match o with
  | none => none
  | some x => if x.version = v ∧ x.zone = fz ∧ x.offset = fo ∧ 0 ≤ tz ∧ 0 ≤ to ∧ 0 ≤ m ∧ m ≤ 255 then some (moved x tz to m) else some x
theorem look_relocL {L : List Ent} {b v fz fo tz to m : Int} (h : validB L = true) (c : Int) : lookE (relocL L b v fz fo tz to m) c = if b = c then movedO (lookE L c) v fz fo tz to m else lookE L c := by
  cases hm : moves L b v fz fo tz to m
  · rw [reloc_same h hm]
    by_cases hbc : b = c
    · subst hbc
      rw [if_pos rfl]
      cases hx : lookE L b with
      | none => rfl
      | some x =>
        have hn : ¬ (x.version = v ∧ x.zone = fz ∧ x.offset = fo ∧ 0 ≤ tz ∧ 0 ≤ to ∧ 0 ≤ m ∧ m ≤ 255) := fun h9 => by rw [(moves_iff h hx).2 h9] at hm; cases hm
        exact (if_neg hn).symm
    · rw [if_neg hbc]
  · cases hx : lookE L b with
    | none =>
      unfold moves at hm
      rw [find_look h, hx] at hm
      cases hm
    | some x =>
      rw [look_reloc h hx hm]
      by_cases hbc : b = c
      · subst hbc
        rw [if_pos rfl, if_pos rfl, hx]
        exact (if_pos ((moves_iff h hx).1 hm)).symm
      · rw [if_neg hbc, if_neg hbc]
theorem look_relocM {Ls : List (List Ent)} {b v fz fo tz to m : Int} (h : validM Ls = true) (hb : 0 ≤ b) {c : Int} (hc : 0 ≤ c) : lookM (relocM Ls b v fz fo tz to m) c = if b = c then movedO (lookM Ls c) v fz fo tz to m else lookM Ls c := by
  rw [lookM_at (validM_reloc h) hc, lookM_at h hc, relocM_set h hb, shardOf_set (st_lt h _)]
  by_cases hs : st Ls c = st Ls b
  · rw [if_pos hs, look_relocL (shard_valid h _), look_other hs]
  · rw [if_neg hs, if_neg (fun hce => hs (by rw [hce]))]
/-! dropping -/
theorem dropM_set {Ls : List (List Ent)} {i : Nat} {L : List Ent} {cut : Int} (h : validM Ls = true) (hL : Ls[i]? = some L) : dropM Ls (i : Int) cut = Ls.set i (stayL L cut) := by
  have hk := (List.getElem?_eq_some_iff.1 hL).1
  have hv := ((validM_iff.1 h).2 i L hL).1
  have h1 : goneM Ls (i : Int) cut = goneL L cut := by
    unfold goneM
    rw [if_pos ⟨h, by omega, by omega⟩, Int.toNat_natCast, getD_of hL]
  unfold dropM
  rw [h1, Int.toNat_natCast, getD_of hL]
  by_cases hg : goneL L cut = []
  · rw [if_pos hg]
    have hs : stayL L cut = L := by
      rw [gone_eq hv, List.filter_eq_nil_iff] at hg
      rw [stay_eq hv, List.filter_eq_self]
      intro x hx
      have := hg x hx
      simpa using this
    rw [hs, set_self hL]
  · rw [if_neg hg]
theorem dropM_out {Ls : List (List Ent)} {i cut : Int} (h : ¬ (0 ≤ i ∧ i < (Ls.length : Int))) : dropM Ls i cut = Ls := by
  have h1 : goneM Ls i cut = [] := by unfold goneM; rw [if_neg (fun h9 => h h9.2)]
  unfold dropM
  rw [if_pos h1]
theorem validM_drop {Ls : List (List Ent)} {i cut : Int} (h : validM Ls = true) : validM (dropM Ls i cut) = true := by
  by_cases hi : 0 ≤ i ∧ i < (Ls.length : Int)
  · obtain ⟨k, rfl⟩ : ∃ k : Nat, i = (k : Int) := ⟨i.toNat, by omega⟩
    have hk : k < Ls.length := by omega
    have hL : Ls[k]? = some (Ls[k]'hk) := List.getElem?_eq_getElem hk
    rw [dropM_set h hL]
    have hv := (validM_iff.1 h).2 k _ hL
    refine set_valid h (valid_stay hv.1) fun x hx => hv.2 x ?_
    rw [stay_eq hv.1] at hx
    exact (List.mem_filter.1 hx).1
  · rw [dropM_out hi]; exact h
/-- the entry of a block behind a drop of its shard -/
def stayO (o : Option Ent) (cut : Int) : Option Ent := o.filter fun e => !gone cut e
theorem look_dropM {Ls : List (List Ent)} {i cut : Int} (h : validM Ls = true) {c : Int} (hc : 0 ≤ c) : lookM (dropM Ls i cut) c = if (st Ls c : Int) = i then stayO (lookM Ls c) cut else lookM Ls c := by
  have hst := st_lt h c
  by_cases hi : 0 ≤ i ∧ i < (Ls.length : Int)
  · obtain ⟨k, rfl⟩ : ∃ k : Nat, i = (k : Int) := ⟨i.toNat, by omega⟩
    have hk : k < Ls.length := by omega
    have hL : Ls[k]? = some (Ls[k]'hk) := List.getElem?_eq_getElem hk
    rw [lookM_at (validM_drop h) hc, lookM_at h hc, dropM_set h hL, shardOf_set hk]
    by_cases hs : st Ls c = k
    · rw [if_pos hs, if_pos (by rw [hs])]
      have hsh : shardOf Ls c = Ls[k]'hk := by
        have := shard_at h c
        rw [hs, hL] at this
        exact (Option.some.inj this).symm
      have hv := ((validM_iff.1 h).2 k _ hL).1
      rw [stay_eq hv, look_filter _ (valid_iff.1 hv).2, hsh]
      rfl
    · rw [if_neg hs, if_neg (by omega)]
  · rw [dropM_out hi, if_neg (by omega)]
end Go.Proofs.Ytljobnfilnbefaa.EntMath

/- The entries of a map in their order are those that a look finds; a drop of every shard. Plain mathematics. -/
namespace Go.Proofs.Ytljobnfilnbefaa.EntMath
theorem fold_some (M : List Ent) {A : List Ent} {b : Int} (h : (∃ x : Ent, x ∈ M ∧ x.block = b) ∨ ∃ y, lookE A b = some y) : ∃ y, lookE (M.foldl ins A) b = some y := by
  induction M generalizing A with
  | nil =>
    rcases h with ⟨x, hx, -⟩ | h
    · cases hx
    · exact h
  | cons y M ih =>
    rw [List.foldl_cons]
    refine ih ?_
    rcases h with ⟨x, hx, hb⟩ | ⟨z, hz⟩
    · rcases List.mem_cons.1 hx with rfl | hx
      · exact .inr ⟨x, by rw [look_ins, if_pos hb]⟩
      · exact .inl ⟨x, hx, hb⟩
    · refine .inr ?_
      rw [look_ins]
      by_cases hb : y.block = b
      · exact ⟨y, if_pos hb⟩
      · exact ⟨z, (if_neg hb).trans hz⟩
theorem flat_shard {Ls : List (List Ent)} (h : validM Ls = true) {x : Ent} (hx : x ∈ Ls.flatten) : x ∈ shardOf Ls x.block ∧ 0 ≤ x.block := by
  obtain ⟨h1, h2⟩ := validM_iff.1 h
  obtain ⟨M, hM, hxM⟩ := List.mem_flatten.1 hx
  obtain ⟨t, ht, hMt⟩ := List.mem_iff_getElem.1 hM
  have hMt' : Ls[t]? = some M := by rw [← hMt]; exact List.getElem?_eq_getElem _
  have h3 := (h2 t M hMt').2 x hxM
  have h4 := shard_at h x.block
  have h5 : st Ls x.block = t := by
    have := st_block h x.block
    omega
  rw [h5, hMt'] at h4
  have h6 := Option.some.inj h4
  rw [← h6]
  exact ⟨hxM, ok_block ((valid_iff.1 (h2 t M hMt').1).1 x hxM)⟩
theorem allM_asc (Ls : List (List Ent)) : Asc (allM Ls) := by
  unfold allM
  split
  · exact asc_fold _ List.Pairwise.nil
  · exact List.Pairwise.nil
theorem allM_flat {Ls : List (List Ent)} (h : validM Ls = true) {x : Ent} (hx : x ∈ allM Ls) : x ∈ Ls.flatten := by
  unfold allM at hx
  rw [if_pos h] at hx
  rcases mem_fold hx with hx | hx
  · exact hx
  · cases hx
theorem look_allM {Ls : List (List Ent)} (h : validM Ls = true) {c : Int} (hc : 0 ≤ c) : lookE (allM Ls) c = lookM Ls c := by
  rw [lookM_at h hc]
  have hasc := (valid_iff.1 (shard_valid h c)).2
  have hin : ∀ y, lookE (allM Ls) c = some y → lookE (shardOf Ls c) c = some y := by
    intro y hy
    have h1 := (flat_shard h (allM_flat h (look_mem hy))).1
    have h2 := look_block hy
    rw [h2] at h1
    have h3 := look_asc hasc h1
    rw [h2] at h3
    exact h3
  cases hx : lookE (shardOf Ls c) c with
  | none =>
    cases hy : lookE (allM Ls) c with
    | none => rfl
    | some y => rw [hin y hy] at hx; cases hx
  | some x =>
    have hm : x ∈ Ls.flatten := List.mem_flatten.2 ⟨_, List.mem_of_getElem? (shard_at h c), look_mem hx⟩
    obtain ⟨y, hy⟩ := fold_some Ls.flatten (A := []) (b := c) (.inl ⟨x, hm, look_block hx⟩)
    have hy' : lookE (allM Ls) c = some y := by unfold allM; rw [if_pos h]; exact hy
    rw [hy', ← hx, hin y hy']
theorem look_allM_neg {Ls : List (List Ent)} (h : validM Ls = true) {c : Int} (hc : c < 0) : lookE (allM Ls) c = none := by
  refine look_none fun x hx => ?_
  have := (flat_shard h (allM_flat h hx)).2
  omega
/-- two maps that a look can't tell apart have the same entries -/
theorem allM_ext {Ls Ms : List (List Ent)} (h : validM Ls = true) (h' : validM Ms = true) (he : ∀ c : Int, 0 ≤ c → lookM Ls c = lookM Ms c) : allM Ls = allM Ms := by
  refine asc_ext (allM_asc Ls) (allM_asc Ms) fun c => ?_
  by_cases hc : 0 ≤ c
  · rw [look_allM h hc, look_allM h' hc, he c hc]
  · rw [look_allM_neg h (by omega), look_allM_neg h' (by omega)]
/-! a drop of the first k shards -/
theorem dropM_len (Ls : List (List Ent)) (i cut : Int) : (dropM Ls i cut).length = Ls.length := by
  unfold dropM
  split
  · rfl
  · rw [List.length_set]
def dropsM (Ls : List (List Ent)) (cut : Int) : Nat → List (List Ent)
  | 0 => Ls
  | k + 1 => dropM (dropsM Ls cut k) (k : Int) cut
theorem dropsM_len (Ls : List (List Ent)) (cut : Int) (k : Nat) : (dropsM Ls cut k).length = Ls.length := by
  induction k with
  | zero => rfl
  | succ k ih => exact (dropM_len _ _ _).trans ih
theorem validM_drops {Ls : List (List Ent)} (h : validM Ls = true) (cut : Int) (k : Nat) : validM (dropsM Ls cut k) = true := by
  induction k with
  | zero => exact h
  | succ k ih => exact validM_drop ih
theorem look_drops {Ls : List (List Ent)} (h : validM Ls = true) (cut : Int) (k : Nat) {c : Int} (hc : 0 ≤ c) : lookM (dropsM Ls cut k) c = if st Ls c < k then stayO (lookM Ls c) cut else lookM Ls c := by
  induction k with
  | zero => rw [if_neg (Nat.not_lt_zero _)]; rfl
  | succ k ih =>
    show lookM (dropM (dropsM Ls cut k) (k : Int) cut) c = _
    rw [look_dropM (validM_drops h cut k) hc, ih]
    have hs : st (dropsM Ls cut k) c = st Ls c := by unfold st; rw [dropsM_len]
    rw [hs]
    by_cases h1 : st Ls c = k
    · rw [if_pos (by omega), if_neg (by omega), if_pos (by omega)]
    · rw [if_neg (by omega)]
      by_cases h2 : st Ls c < k
      · rw [if_pos h2, if_pos (by omega)]
      · rw [if_neg h2, if_neg (by omega)]
theorem look_drops8 {Ls : List (List Ent)} (h : validM Ls = true) (cut : Int) {c : Int} (hc : 0 ≤ c) : lookM (dropsM Ls cut 8) c = stayO (lookM Ls c) cut := by
  rw [look_drops h cut 8 hc, if_pos (Nat.lt_of_lt_of_le (st_lt h c) (validM_iff.1 h).1.2)]
/-- the two maps of the consequence -/
structure Twin (Ls Ms : List (List Ent)) : Prop where
  one : validM Ls = true
  two : validM Ms = true
  same : ∀ c : Int, 0 ≤ c → lookM Ls c = lookM Ms c
theorem Twin.all {Ls Ms : List (List Ent)} (h : Twin Ls Ms) : allM Ls = allM Ms := allM_ext h.one h.two h.same
theorem Twin.install {Ls Ms : List (List Ent)} (h : Twin Ls Ms) {e : Ent} (he : okE e = true) : Twin (installM Ls e) (installM Ms e) :=
  ⟨validM_install h.one he, validM_install h.two he, fun c hc => by rw [look_installM h.one he hc, look_installM h.two he hc, h.same c hc]⟩
theorem Twin.reloc {Ls Ms : List (List Ent)} (h : Twin Ls Ms) {b v fz fo tz to m : Int} (hb : 0 ≤ b) : Twin (relocM Ls b v fz fo tz to m) (relocM Ms b v fz fo tz to m) :=
  ⟨validM_reloc h.one, validM_reloc h.two, fun c hc => by rw [look_relocM h.one hb hc, look_relocM h.two hb hc, h.same c hc]⟩
theorem Twin.drops {Ls Ms : List (List Ent)} (h : Twin Ls Ms) (cut : Int) : Twin (dropsM Ls cut 8) (dropsM Ms cut 8) :=
  ⟨validM_drops h.one cut 8, validM_drops h.two cut 8, fun c hc => by rw [look_drops8 h.one cut hc, look_drops8 h.two cut hc, h.same c hc]⟩
/-- a map of n shards without an entry -/
theorem empty_valid {n : Nat} (h1 : 1 ≤ n) (h8 : n ≤ 8) : validM (List.replicate n []) = true := by
  refine validM_iff.2 ⟨by simpa using ⟨h1, h8⟩, fun i L hL => ?_⟩
  obtain ⟨hi, rfl⟩ := List.getElem?_eq_some_iff.1 hL
  rw [List.getElem_replicate]
  exact ⟨valid_nil, fun e he => by cases he⟩
theorem empty_look (n : Nat) (c : Int) : lookM (List.replicate n []) c = none := by
  unfold lookM
  split
  · refine look_none fun x hx => ?_
    unfold shardOf at hx
    rw [List.getD_eq_getElem?_getD, List.getElem?_replicate] at hx
    split at hx <;> cases hx
  · rfl
theorem Twin.made {n k : Nat} (h1 : 1 ≤ n) (h8 : n ≤ 8) (k1 : 1 ≤ k) (k8 : k ≤ 8) : Twin (List.replicate n []) (List.replicate k []) :=
  ⟨empty_valid h1 h8, empty_valid k1 k8, fun c _ => by rw [empty_look, empty_look]⟩
end Go.Proofs.Ytljobnfilnbefaa.EntMath

/- A list that holds the entries of a map, ascending, is what All gives. Plain mathematics. -/
namespace Go.Proofs.Ytljobnfilnbefaa.EntMath
theorem shard_apart {Ls : List (List Ent)} (h : validM Ls = true) : Ls.flatten.Pairwise fun x y => x.block ≠ y.block := by
  have hv := (validM_iff.1 h).2
  rw [List.pairwise_flatten]
  constructor
  · intro L hL
    obtain ⟨i, hi⟩ := List.mem_iff_getElem?.1 hL
    exact (valid_iff.1 (hv i L hi).1).2.imp fun hxy => by omega
  · rw [List.pairwise_iff_getElem]
    intro i j hi hj hij x hx y hy
    have h1 := (hv i _ (List.getElem?_eq_getElem hi)).2 x hx
    have h2 := (hv j _ (List.getElem?_eq_getElem hj)).2 y hy
    intro e
    rw [e] at h1
    omega
theorem sorted_all {Ls : List (List Ent)} {M : List Ent} (h : validM Ls = true) (hp : M.Perm Ls.flatten) (hs : M.Pairwise fun x y => x.block ≤ y.block) : M = allM Ls := by
  have hne : M.Pairwise fun x y => x.block ≠ y.block := (hp.pairwise_iff (fun hxy => Ne.symm hxy)).2 (shard_apart h)
  have hA : Asc M := (hs.and hne).imp fun hxy => by omega
  refine asc_ext hA (allM_asc Ls) fun b => ?_
  by_cases hx : ∃ x : Ent, x ∈ M ∧ x.block = b
  · obtain ⟨x, hx, rfl⟩ := hx
    rw [look_asc hA hx]
    obtain ⟨h1, h2⟩ := flat_shard h (hp.subset hx)
    rw [look_allM h h2]
    unfold lookM
    rw [if_pos ⟨h, h2⟩, look_asc (valid_iff.1 (shard_valid h x.block)).2 h1]
  · rw [look_none fun x hm e => hx ⟨x, hm, e⟩, look_none fun x hm e => hx ⟨x, hp.symm.subset (allM_flat h hm), e⟩]
end Go.Proofs.Ytljobnfilnbefaa.EntMath
