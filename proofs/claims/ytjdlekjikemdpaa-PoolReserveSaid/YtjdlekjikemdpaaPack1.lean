/- Texts that belong together, part 1. -/

/- Pools of free zones: what layer 13 of the document says of them. Plain mathematics. -/
namespace Go.Proofs.Ytjdlekjikemdpaa.PoolMath
structure Po where
  free : List Int
  host : Int
  clean : Int
/-- does a list hold a number -/
def hasL (L : List Int) (z : Int) : Bool := L.any (· == z)
theorem has_here {L : List Int} {z x : Int} {j u : Nat} (h : L[j]? = some x) (hj : j < u) (hx : x = z) : hasL (L.take u) z = true := by
  obtain ⟨hl, he⟩ := List.getElem?_eq_some_iff.1 h
  have h2 : (L.take u)[j]? = some x := by rw [List.getElem?_take, if_pos hj]; exact h
  simp only [hasL, List.any_eq_true]
  exact ⟨x, List.mem_of_getElem? h2, by simp [hx]⟩
theorem has_next {L : List Int} {z x : Int} {j : Nat} (h : L[j]? = some x) : hasL (L.take (j + 1)) z = (hasL (L.take j) z || decide (x = z)) := by
  obtain ⟨hl, he⟩ := List.getElem?_eq_some_iff.1 h
  subst he
  rw [List.take_succ_eq_append_getElem hl]
  simp only [hasL, List.any_append, List.any_cons, List.any_nil, Bool.or_false]
  rfl
/-- is the number at place i a data zone, and greater than the one before it -/
def stepOk (D : Int → Bool) (L : List Int) (i : Nat) : Bool := D (L.getD i 0) && (decide (i = 0) || decide (L.getD (i - 1) 0 < L.getD i 0))
/-- are the first u numbers data zones that ascend strictly -/
def freeOk (D : Int → Bool) (L : List Int) (u : Nat) : Bool := (List.range u).all (stepOk D L)
/-- may a lane hold this -/
def laneOk (D : Int → Bool) (L : List Int) (x : Int) : Bool := decide (x = -1) || (D x && !hasL L x)
/-- is a pool valid -/
def validP (V : Bool) (D : Int → Bool) (P : Po) : Bool :=
  V && freeOk D P.free P.free.length && laneOk D P.free P.host && laneOk D P.free P.clean && (decide (P.host = -1) || !decide (P.host = P.clean))
theorem free_zero {D : Int → Bool} {L : List Int} : freeOk D L 0 = true := rfl
theorem free_next {D : Int → Bool} {L : List Int} {j : Nat} : freeOk D L (j + 1) = (freeOk D L j && stepOk D L j) := by
  simp only [freeOk, List.range_succ, List.all_append, List.all_cons, List.all_nil, Bool.and_true]
theorem free_bad {D : Int → Bool} {L : List Int} {j u : Nat} (hj : j < u) (h : stepOk D L j = false) : freeOk D L u = false := by
  rw [freeOk, List.all_eq_false]
  exact ⟨j, List.mem_range.2 hj, by simp [h]⟩
theorem getD_of {L : List Int} {j : Nat} {x : Int} (h : L[j]? = some x) : L.getD j 0 = x := by rw [List.getD_eq_getElem?_getD, h]; rfl
theorem step_zero {D : Int → Bool} {L : List Int} {x : Int} (h : L[0]? = some x) : stepOk D L 0 = D x := by
  unfold stepOk; rw [getD_of h]; simp
theorem step_next {D : Int → Bool} {L : List Int} {j : Nat} {x y : Int} (h : L[j]? = some x) (h2 : L[j + 1]? = some y) : stepOk D L (j + 1) = (D y && decide (x < y)) := by
  unfold stepOk; rw [getD_of h2, Nat.add_sub_cancel, getD_of h]; simp
theorem po_no {V : Bool} {D : Int → Bool} {P : Po} (h : V = false) : validP V D P = false := by simp [validP, h]
theorem po_free {V : Bool} {D : Int → Bool} {P : Po} (h : freeOk D P.free P.free.length = false) : validP V D P = false := by simp [validP, h]
theorem po_is {D : Int → Bool} {P : Po} (h : freeOk D P.free P.free.length = true) : validP true D P = (laneOk D P.free P.host && laneOk D P.free P.clean && (decide (P.host = -1) || !decide (P.host = P.clean))) := by simp [validP, h]
theorem po_lane1 {V : Bool} {D : Int → Bool} {P : Po} (h : laneOk D P.free P.host = false) : validP V D P = false := by simp [validP, h]
theorem po_lane2 {V : Bool} {D : Int → Bool} {P : Po} (h : laneOk D P.free P.clean = false) : validP V D P = false := by simp [validP, h]
theorem po_all {V : Bool} {D : Int → Bool} {P : Po} (hV : V = true) (h : freeOk D P.free P.free.length = true) (h1 : laneOk D P.free P.host = true) (h2 : laneOk D P.free P.clean = true) : validP V D P = (decide (P.host = -1) || !decide (P.host = P.clean)) := by simp [validP, hV, h, h1, h2]
theorem lane_none {D : Int → Bool} {L : List Int} : laneOk D L (-1) = true := rfl
theorem lane_bad {D : Int → Bool} {L : List Int} {x : Int} (h : ¬ x = -1) (hd : D x = false) : laneOk D L x = false := by simp [laneOk, h, hd]
theorem lane_in {D : Int → Bool} {L : List Int} {x : Int} (h : ¬ x = -1) (hh : hasL L x = true) : laneOk D L x = false := by simp [laneOk, h, hh]
theorem lane_ok {D : Int → Bool} {L : List Int} {x : Int} (hd : D x = true) (hh : hasL L x = false) : laneOk D L x = true := by simp [laneOk, hd, hh]
/-- a number among others that ascend -/
def insL (L : List Int) (z : Int) : List Int := L.takeWhile (· < z) ++ z :: L.dropWhile (· < z)
def putB (V : Bool) (D : Int → Bool) (P : Po) (z : Int) : Bool := validP V D P && D z && !hasL P.free z && !decide (z = P.host) && !decide (z = P.clean)
def putP (V : Bool) (D : Int → Bool) (P : Po) (z : Int) : Po := if putB V D P z = true then ⟨insL P.free z, P.host, P.clean⟩ else P
def hostB (V : Bool) (D : Int → Bool) (P : Po) : Bool := validP V D P && decide (P.host = -1) && decide (2 < P.free.length)
def hostP (V : Bool) (D : Int → Bool) (P : Po) : Po := if hostB V D P = true then ⟨P.free.drop 1, P.free.getD 0 0, P.clean⟩ else P
def cleanB (V : Bool) (D : Int → Bool) (P : Po) : Bool := validP V D P && decide (P.clean = -1) && decide (0 < P.free.length)
def cleanP (V : Bool) (D : Int → Bool) (P : Po) : Po := if cleanB V D P = true then ⟨P.free.drop 1, P.host, P.free.getD 0 0⟩ else P
def leaveB (V : Bool) (D : Int → Bool) (P : Po) (h : Bool) : Bool := validP V D P && (if h = true then !decide (P.host = -1) else !decide (P.clean = -1))
def leaveP (V : Bool) (D : Int → Bool) (P : Po) (h : Bool) : Po := if leaveB V D P h = true then (if h = true then ⟨P.free, -1, P.clean⟩ else ⟨P.free, P.host, -1⟩) else P
end Go.Proofs.Ytjdlekjikemdpaa.PoolMath

/- Entries of the map, lists of them, and what layer 8 of the document says of them. Plain mathematics. -/
namespace Go.Proofs.Ytjdlekjikemdpaa.EntMath
structure Ent where
  block : Int
  kind : Int
  version : Int
  move : Int
  zone : Int
  offset : Int
deriving DecidableEq
def zeroE : Ent := ⟨0, 0, 0, 0, 0, 0⟩
/-- may an entry be in a shard -/
def okE (e : Ent) : Bool :=
  (decide (e.kind = 1) || decide (e.kind = 2)) && decide (1 ≤ e.version) && decide (e.version ≤ 1099511627776) && decide (0 ≤ e.move) && decide (e.move ≤ 255) && decide (0 ≤ e.block) && decide (0 ≤ e.zone) && decide (0 ≤ e.offset)
/-- is the entry at a place as it must be, beside the one ahead of it -/
def okAt (L : List Ent) : Nat → Bool
  | 0 => match L[0]? with | none => true | some e => okE e
  | i + 1 => match L[i]?, L[i + 1]? with | some d, some e => okE e && decide (d.block < e.block) | _, _ => true
/-- is it a shard -/
def validB (L : List Ent) : Bool := (List.range L.length).all (okAt L)
/-- the first place whose entry has at least this block -/
def place (L : List Ent) (b : Int) : Nat := L.findIdx fun e => decide (b ≤ e.block)
/-- the entry of a block -/
def lookE (L : List Ent) (b : Int) : Option Ent := L.find? fun e => decide (e.block = b)
/-- an entry put in its place -/
def ins : List Ent → Ent → List Ent
  | [], e => [e]
  | x :: L, e => if x.block < e.block then x :: ins L e else if x.block = e.block then e :: L else e :: x :: L
def findE (L : List Ent) (b : Int) : Option Ent := if validB L = true then lookE L b else none
/-- what Install gives -/
def newer (L : List Ent) (e : Ent) : Bool := validB L && okE e && match lookE L e.block with | none => true | some x => decide (x.version < e.version)
def installL (L : List Ent) (e : Ent) : List Ent := if validB L = true then (if newer L e = true then ins L e else L) else []
def installE (L : List Ent) (e : Ent) : Ent := if validB L = true ∧ okE e = true then (lookE L e.block).getD zeroE else zeroE
/-- what Relocate gives -/
def moves (L : List Ent) (b v fz fo tz to m : Int) : Bool := match findE L b with
  | none => false
  | some x => decide (x.version = v) && decide (x.zone = fz) && decide (x.offset = fo) && decide (0 ≤ tz) && decide (0 ≤ to) && decide (0 ≤ m) && decide (m ≤ 255)
def moved (x : Ent) (tz to m : Int) : Ent := ⟨x.block, x.kind, x.version, m, tz, to⟩
def relocL (L : List Ent) (b v fz fo tz to m : Int) : List Ent :=
  if validB L = true then (if moves L b v fz fo tz to m = true then (match lookE L b with | none => L | some x => ins L (moved x tz to m)) else L) else []
/-- what Drop gives -/
def gone (cut : Int) (e : Ent) : Bool := decide (e.kind = 2) && decide (e.version < cut)
def stayL (L : List Ent) (cut : Int) : List Ent := if validB L = true then L.filter (fun e => !gone cut e) else []
def goneL (L : List Ent) (cut : Int) : List Ent := if validB L = true then L.filter (gone cut) else []

/-! a shard -/
def Asc (L : List Ent) : Prop := L.Pairwise fun x y => x.block < y.block
theorem okAt_iff {L : List Ent} {i : Nat} {e : Ent} (h : L[i]? = some e) : okAt L i = true ↔ okE e = true ∧ ∀ d, 0 < i → L[i - 1]? = some d → d.block < e.block := by
  cases i with
  | zero =>
    simp only [okAt, h]
    exact ⟨fun h => ⟨h, fun _ h => absurd h (by omega)⟩, fun h => h.1⟩
  | succ i =>
    simp only [okAt, h, Nat.add_sub_cancel]
    cases hd : L[i]? with
    | none =>
      have := (List.getElem?_eq_some_iff.1 h).1
      rw [List.getElem?_eq_none_iff] at hd
      omega
    | some d =>
      simp only [Bool.and_eq_true, decide_eq_true_eq]
      exact ⟨fun h => ⟨h.1, fun d' _ h' => by obtain rfl := Option.some.inj h'; exact h.2⟩, fun h => ⟨h.1, h.2 d (by omega) rfl⟩⟩
theorem valid_at {L : List Ent} (h : validB L = true) {i : Nat} {e : Ent} (he : L[i]? = some e) : okAt L i = true := by
  have hi := (List.getElem?_eq_some_iff.1 he).1
  exact List.all_eq_true.1 h i (List.mem_range.2 hi)
theorem valid_iff {L : List Ent} : validB L = true ↔ (∀ e ∈ L, okE e = true) ∧ Asc L := by
  constructor
  · intro h
    refine ⟨fun e he => ?_, ?_⟩
    · obtain ⟨i, hi⟩ := List.mem_iff_getElem?.1 he
      exact ((okAt_iff hi).1 (valid_at h hi)).1
    · rw [Asc, List.pairwise_iff_getElem]
      have step : ∀ k i (hi : i < L.length) (hj : i + k + 1 < L.length), L[i].block < L[i + k + 1].block := by
        intro k
        induction k with
        | zero =>
          intro i hi hj
          have h2 := (okAt_iff (List.getElem?_eq_getElem hj)).1 (valid_at h (List.getElem?_eq_getElem hj))
          exact h2.2 L[i] (by omega) (by simp only [Nat.add_zero, Nat.add_sub_cancel]; exact List.getElem?_eq_getElem hi)
        | succ k ih =>
          intro i hi hj
          have h1 := ih i hi (by omega)
          have h2 := (okAt_iff (List.getElem?_eq_getElem hj)).1 (valid_at h (List.getElem?_eq_getElem hj))
          have h3 := h2.2 (L[i + k + 1]'(by omega)) (by omega) (by
            rw [show i + (k + 1) + 1 - 1 = i + k + 1 by omega]
            exact List.getElem?_eq_getElem _)
          exact Int.lt_trans h1 h3
      intro i j hi hj hij
      have := step (j - i - 1) i hi (by omega)
      simp only [show i + (j - i - 1) + 1 = j by omega] at this
      exact this
  · rintro ⟨h1, h2⟩
    rw [Asc, List.pairwise_iff_getElem] at h2
    refine List.all_eq_true.2 fun i hi => ?_
    have hi := List.mem_range.1 hi
    refine (okAt_iff (List.getElem?_eq_getElem hi)).2 ⟨h1 _ (List.getElem_mem hi), fun d h0 hd => ?_⟩
    obtain ⟨hl, rfl⟩ := List.getElem?_eq_some_iff.1 hd
    exact h2 (i - 1) i hl hi (by omega)
theorem valid_nil : validB [] = true := rfl
/-! looking up -/
theorem look_cons (x : Ent) (L : List Ent) (b : Int) : lookE (x :: L) b = if x.block = b then some x else lookE L b := by
  unfold lookE
  rw [List.find?_cons]
  by_cases h : x.block = b <;> simp [h]
theorem look_block {L : List Ent} {b : Int} {x : Ent} (h : lookE L b = some x) : x.block = b := by
  have := List.find?_some h
  simpa using this
theorem look_mem {L : List Ent} {b : Int} {x : Ent} (h : lookE L b = some x) : x ∈ L := List.mem_of_find?_eq_some h
theorem look_none {L : List Ent} {b : Int} (h : ∀ x ∈ L, x.block ≠ b) : lookE L b = none := by
  unfold lookE
  rw [List.find?_eq_none]
  intro x hx
  simpa using h x hx
theorem look_asc {L : List Ent} (h : Asc L) {x : Ent} (hx : x ∈ L) : lookE L x.block = some x := by
  induction L with
  | nil => cases hx
  | cons y L ih =>
    rw [look_cons]
    rw [Asc, List.pairwise_cons] at h
    rcases List.mem_cons.1 hx with rfl | hx
    · rw [if_pos rfl]
    · have := h.1 x hx
      rw [if_neg (by omega)]
      exact ih h.2 hx
/-- lists that ascend are equal where they say the same of each block -/
theorem asc_ext {L M : List Ent} (hL : Asc L) (hM : Asc M) (h : ∀ b, lookE L b = lookE M b) : L = M := by
  induction L generalizing M with
  | nil =>
    cases M with
    | nil => rfl
    | cons m M =>
      have := h m.block
      rw [look_cons, if_pos rfl] at this
      cases this
  | cons l L ih =>
    cases M with
    | nil =>
      have := h l.block
      rw [look_cons, if_pos rfl] at this
      cases this
    | cons m M =>
      have hl := hL
      have hm := hM
      rw [Asc, List.pairwise_cons] at hl hm
      have h1 := h l.block
      rw [look_cons, if_pos rfl] at h1
      have h2 := h m.block
      rw [look_cons m M, if_pos rfl] at h2
      have h3 : l = m := by
        rcases List.mem_cons.1 (look_mem h1.symm) with h4 | h4
        · exact h4
        · rcases List.mem_cons.1 (look_mem h2) with h5 | h5
          · exact h5.symm
          · have := hm.1 l h4
            have := hl.1 m h5
            omega
      subst h3
      congr 1
      refine ih hl.2 hm.2 fun b => ?_
      have h4 := h b
      rw [look_cons, look_cons] at h4
      by_cases hb : l.block = b
      · subst hb
        rw [look_none (fun x hx => by have := hl.1 x hx; omega), look_none (fun x hx => by have := hm.1 x hx; omega)]
      · rwa [if_neg hb, if_neg hb] at h4
/-! the place -/
theorem place_cons (x : Ent) (L : List Ent) (b : Int) : place (x :: L) b = if b ≤ x.block then 0 else place L b + 1 := by
  unfold place
  rw [List.findIdx_cons]
  by_cases h : b ≤ x.block <;> simp [h]
theorem place_le (L : List Ent) (b : Int) : place L b ≤ L.length := List.findIdx_le_length
theorem place_before {L : List Ent} {b : Int} {i : Nat} {x : Ent} (h : L[i]? = some x) (hi : i < place L b) : x.block < b := by
  obtain ⟨hl, rfl⟩ := List.getElem?_eq_some_iff.1 h
  have := List.not_of_lt_findIdx hi
  simpa using this
theorem place_at {L : List Ent} {b : Int} {x : Ent} (h : L[place L b]? = some x) : b ≤ x.block := by
  obtain ⟨hl, rfl⟩ := List.getElem?_eq_some_iff.1 h
  have := @List.findIdx_getElem Ent (fun e => decide (b ≤ e.block)) L hl
  simp only [decide_eq_true_eq] at this
  exact this
theorem place_is {L : List Ent} {b : Int} {k : Nat} (h1 : ∀ i x, i < k → L[i]? = some x → x.block < b) (h2 : ∀ x, L[k]? = some x → b ≤ x.block) (hk : k ≤ L.length) : place L b = k := by
  rcases Nat.lt_trichotomy (place L b) k with h | h | h
  · have hl : place L b < L.length := by omega
    have h3 := h1 _ _ h (List.getElem?_eq_getElem hl)
    have h4 := place_at (List.getElem?_eq_getElem hl)
    omega
  · exact h
  · have hl : k < L.length := by have := place_le L b; omega
    have h3 := h2 _ (List.getElem?_eq_getElem hl)
    have h4 := place_before (List.getElem?_eq_getElem hl) h
    omega
theorem look_place {L : List Ent} (h : Asc L) (b : Int) : lookE L b = (match L[place L b]? with | none => none | some x => if x.block = b then some x else none) := by
  induction L with
  | nil => rfl
  | cons y L ih =>
    rw [look_cons, place_cons]
    rw [Asc, List.pairwise_cons] at h
    by_cases h1 : b ≤ y.block
    · rw [if_pos h1]
      simp only [List.getElem?_cons_zero]
      by_cases h2 : y.block = b
      · rw [if_pos h2, if_pos h2]
      · rw [if_neg h2, if_neg h2]
        exact look_none fun x hx => by have := h.1 x hx; omega
    · rw [if_neg h1, if_neg (by omega)]
      simp only [List.getElem?_cons_succ]
      exact ih h.2
/-! putting in -/
theorem ins_place {L : List Ent} (e : Ent) (h : lookE L e.block = none) (hA : Asc L) : L.take (place L e.block) ++ e :: L.drop (place L e.block) = ins L e := by
  induction L with
  | nil => rfl
  | cons x L ih =>
    rw [look_cons] at h
    rw [Asc, List.pairwise_cons] at hA
    rw [place_cons, ins]
    by_cases h1 : e.block ≤ x.block
    · have h2 : x.block ≠ e.block := fun h2 => by rw [if_pos h2] at h; cases h
      rw [if_pos h1, if_neg (by omega), if_neg h2]
      rfl
    · rw [if_neg (show ¬ x.block = e.block by omega)] at h
      rw [if_neg h1, if_pos (by omega)]
      simp only [List.take_succ_cons, List.drop_succ_cons, List.cons_append]
      rw [ih h hA.2]
theorem ins_over {L : List Ent} (e x : Ent) (h : lookE L e.block = some x) (hA : Asc L) : L.take (place L e.block) ++ e :: L.drop (place L e.block + 1) = ins L e := by
  induction L with
  | nil => cases h
  | cons y L ih =>
    rw [look_cons] at h
    rw [Asc, List.pairwise_cons] at hA
    rw [place_cons, ins]
    by_cases h1 : e.block ≤ y.block
    · have h2 : y.block = e.block := by
        by_cases h2 : y.block = e.block
        · exact h2
        · rw [if_neg h2] at h
          have h3 := hA.1 x (look_mem h)
          have h4 := look_block h
          omega
      rw [if_pos h1, if_neg (by omega), if_pos h2]
      rfl
    · rw [if_neg (show ¬ y.block = e.block by omega)] at h
      rw [if_neg h1, if_pos (by omega)]
      simp only [List.take_succ_cons, List.drop_succ_cons, List.cons_append]
      rw [ih h hA.2]
theorem ins_set {L : List Ent} (e x : Ent) (h : lookE L e.block = some x) (hA : Asc L) : L.set (place L e.block) e = ins L e := by
  rw [← ins_over e x h hA]
  have hlp := look_place hA e.block
  have hlt : place L e.block < L.length := by
    rcases Nat.lt_or_ge (place L e.block) L.length with hl | hl
    · exact hl
    · rw [List.getElem?_eq_none hl, h] at hlp
      cases hlp
  exact List.set_eq_take_append_cons_drop.trans (if_pos hlt)
theorem look_ins (L : List Ent) (e : Ent) (b : Int) : lookE (ins L e) b = if e.block = b then some e else lookE L b := by
  induction L with
  | nil => rw [ins, look_cons]
  | cons x L ih =>
    rw [ins]
    by_cases h1 : x.block < e.block
    · rw [if_pos h1, look_cons, ih, look_cons]
      by_cases h2 : e.block = b
      · rw [if_neg (by omega), if_pos h2, if_pos h2]
      · rw [if_neg h2, if_neg h2]
    · rw [if_neg h1]
      by_cases h2 : x.block = e.block
      · rw [if_pos h2, look_cons, look_cons]
        by_cases h3 : e.block = b
        · rw [if_pos h3, if_pos h3]
        · rw [if_neg h3, if_neg h3, if_neg (by omega)]
      · rw [if_neg h2, look_cons]
theorem mem_ins {L : List Ent} {e x : Ent} (h : x ∈ ins L e) : x = e ∨ x ∈ L := by
  induction L with
  | nil => rw [ins] at h; exact .inl (List.mem_singleton.1 h)
  | cons y L ih =>
    rw [ins] at h
    split at h
    · rcases List.mem_cons.1 h with h | h
      · exact .inr (List.mem_cons.2 (.inl h))
      · exact (ih h).imp id (fun h => List.mem_cons_of_mem _ h)
    · split at h
      · rcases List.mem_cons.1 h with h | h
        · exact .inl h
        · exact .inr (List.mem_cons_of_mem _ h)
      · rcases List.mem_cons.1 h with h | h
        · exact .inl h
        · exact .inr h
theorem asc_ins {L : List Ent} (e : Ent) (h : Asc L) : Asc (ins L e) := by
  induction L with
  | nil => exact List.pairwise_singleton _ _
  | cons y L ih =>
    have h0 := h
    rw [Asc, List.pairwise_cons] at h
    rw [ins]
    by_cases h1 : y.block < e.block
    · rw [if_pos h1, Asc, List.pairwise_cons]
      refine ⟨fun x hx => ?_, ih h.2⟩
      rcases mem_ins hx with rfl | hx
      · exact h1
      · exact h.1 x hx
    · rw [if_neg h1]
      by_cases h2 : y.block = e.block
      · rw [if_pos h2, Asc, List.pairwise_cons]
        exact ⟨fun x hx => by have := h.1 x hx; omega, h.2⟩
      · rw [if_neg h2, Asc, List.pairwise_cons]
        refine ⟨fun x hx => ?_, h0⟩
        rcases List.mem_cons.1 hx with rfl | hx
        · omega
        · have := h.1 x hx; omega
theorem valid_ins {L : List Ent} {e : Ent} (h : validB L = true) (he : okE e = true) : validB (ins L e) = true := by
  obtain ⟨h1, h2⟩ := valid_iff.1 h
  refine valid_iff.2 ⟨fun x hx => ?_, asc_ins e h2⟩
  rcases mem_ins hx with rfl | hx
  · exact he
  · exact h1 x hx
/-! dropping -/
theorem asc_filter {L : List Ent} (p : Ent → Bool) (h : Asc L) : Asc (L.filter p) := h.sublist List.filter_sublist
theorem valid_filter {L : List Ent} (p : Ent → Bool) (h : validB L = true) : validB (L.filter p) = true := by
  obtain ⟨h1, h2⟩ := valid_iff.1 h
  exact valid_iff.2 ⟨fun x hx => h1 x (List.mem_filter.1 hx).1, asc_filter p h2⟩
theorem look_filter {L : List Ent} (p : Ent → Bool) (h : Asc L) (b : Int) : lookE (L.filter p) b = (lookE L b).filter p := by
  induction L with
  | nil => rfl
  | cons x L ih =>
    rw [Asc, List.pairwise_cons] at h
    rw [look_cons, List.filter_cons]
    by_cases hp : p x = true
    · rw [if_pos hp, look_cons]
      by_cases h1 : x.block = b
      · rw [if_pos h1, if_pos h1]; simp only [Option.filter, hp, if_true]
      · rw [if_neg h1, if_neg h1]; exact ih h.2
    · rw [if_neg hp]
      by_cases h1 : x.block = b
      · rw [if_pos h1, ih h.2, look_none (fun y hy => by have := h.1 y hy; omega)]
        simp only [Option.filter, hp]
        rfl
      · rw [if_neg h1]; exact ih h.2
end Go.Proofs.Ytjdlekjikemdpaa.EntMath

/- What installs, relocations and drops do to the entry of a block. Plain mathematics. -/
namespace Go.Proofs.Ytjdlekjikemdpaa.EntMath
theorem newer_iff {L : List Ent} {e : Ent} (h : validB L = true) (he : okE e = true) : newer L e = true ↔ ∀ x, lookE L e.block = some x → x.version < e.version := by
  unfold newer
  rw [h, he]
  cases hx : lookE L e.block with
  | none => simp
  | some x => simp
theorem install_eq {L : List Ent} {e : Ent} (h : validB L = true) : installL L e = if newer L e = true then ins L e else L := by unfold installL; rw [if_pos h]
theorem newer_ok {L : List Ent} {e : Ent} (h : newer L e = true) : okE e = true := by
  unfold newer at h
  simp only [Bool.and_eq_true] at h
  exact h.1.2
theorem valid_install {L : List Ent} {e : Ent} (h : validB L = true) : validB (installL L e) = true := by
  rw [install_eq h]
  split
  · exact valid_ins h (newer_ok (by assumption))
  · exact h
/-- the entry of a block behind an install -/
def best (o : Option Ent) (e : Ent) : Option Ent := match o with | none => some e | some x => if x.version < e.version then some e else some x
theorem look_install {L : List Ent} {e : Ent} (h : validB L = true) (he : okE e = true) (c : Int) : lookE (installL L e) c = if e.block = c then best (lookE L c) e else lookE L c := by
  rw [install_eq h]
  by_cases hn : newer L e = true
  · rw [if_pos hn, look_ins]
    have hv := (newer_iff h he).1 hn
    by_cases hc : e.block = c
    · subst hc
      rw [if_pos rfl, if_pos rfl]
      unfold best
      cases hx : lookE L e.block with
      | none => rfl
      | some x => exact (if_pos (hv x hx)).symm
    · rw [if_neg hc, if_neg hc]
  · rw [if_neg hn]
    by_cases hc : e.block = c
    · subst hc
      rw [if_pos rfl]
      unfold best
      cases hx : lookE L e.block with
      | none => exact absurd ((newer_iff h he).2 (fun x hx' => by rw [hx] at hx'; cases hx')) hn
      | some x =>
        have hlt : ¬ x.version < e.version := fun hlt => hn ((newer_iff h he).2 (fun y hy => by rw [hx] at hy; obtain rfl := Option.some.inj hy; exact hlt))
        exact (if_neg hlt).symm
    · rw [if_neg hc]
theorem ins_length (L : List Ent) (e : Ent) : (ins L e).length ≤ L.length + 1 := by
  induction L with
  | nil => simp [ins]
  | cons x L ih =>
    rw [ins]
    split
    · simp only [List.length_cons]; omega
    · split <;> simp only [List.length_cons] <;> omega
theorem install_length (L : List Ent) (e : Ent) : (installL L e).length ≤ L.length + 1 := by
  unfold installL
  split
  · split
    · exact ins_length L e
    · omega
  · simp
theorem valid_ext {L M : List Ent} (hL : validB L = true) (hM : validB M = true) (h : ∀ b, lookE L b = lookE M b) : L = M := asc_ext (valid_iff.1 hL).2 (valid_iff.1 hM).2 h
theorem best_comm {o : Option Ent} {a b : Ent} (h : a.version ≠ b.version) : best (best o a) b = best (best o b) a := by
  cases o with
  | none =>
    simp only [best]
    by_cases h1 : a.version < b.version
    · rw [if_pos h1, if_neg (by omega)]
    · rw [if_neg h1, if_pos (by omega)]
  | some x =>
    have e1 : best (some x) a = if x.version < a.version then some a else some x := rfl
    have e2 : best (some x) b = if x.version < b.version then some b else some x := rfl
    rw [e1, e2]
    by_cases h1 : x.version < a.version <;> by_cases h2 : x.version < b.version
    · rw [if_pos h1, if_pos h2]
      show (if a.version < b.version then some b else some a) = (if b.version < a.version then some a else some b)
      by_cases h3 : a.version < b.version
      · rw [if_pos h3, if_neg (by omega)]
      · rw [if_neg h3, if_pos (by omega)]
    · rw [if_pos h1, if_neg h2]
      show (if a.version < b.version then some b else some a) = (if x.version < a.version then some a else some x)
      rw [if_neg (by omega), if_pos h1]
    · rw [if_neg h1, if_pos h2]
      show (if x.version < b.version then some b else some x) = (if b.version < a.version then some a else some b)
      rw [if_pos h2, if_neg (by omega)]
    · rw [if_neg h1, if_neg h2]
      show (if x.version < b.version then some b else some x) = (if x.version < a.version then some a else some x)
      rw [if_neg h2, if_neg h1]
/-- two installs in either order -/
theorem install_comm {L : List Ent} {a b : Ent} (h : validB L = true) (ha : okE a = true) (hb : okE b = true) (hab : ¬ (a.block = b.block ∧ a.version = b.version)) : installL (installL L a) b = installL (installL L b) a := by
  refine valid_ext (valid_install (valid_install h)) (valid_install (valid_install h)) fun c => ?_
  rw [look_install (valid_install h) hb, look_install h ha, look_install (valid_install h) ha, look_install h hb]
  by_cases h1 : a.block = c <;> by_cases h2 : b.block = c <;> simp only [h1, h2, if_true, if_false]
  exact best_comm fun hv => hab ⟨by omega, hv⟩
theorem install_some {L : List Ent} {a : Ent} (h : validB L = true) (ha : okE a = true) : ∃ x, lookE (installL L a) a.block = some x := by
  rw [look_install h ha, if_pos rfl]
  unfold best
  cases lookE L a.block with
  | none => exact ⟨_, rfl⟩
  | some x =>
    simp only
    split
    · exact ⟨_, rfl⟩
    · exact ⟨_, rfl⟩
theorem look_nonempty {L : List Ent} {b : Int} {x : Ent} (h : lookE L b = some x) : L ≠ [] := by
  rintro rfl
  cases h
theorem install_nonempty {L : List Ent} {a b : Ent} (h : validB L = true) (hb : okE b = true) : installL (installL L a) b ≠ [] := by
  obtain ⟨x, hx⟩ := install_some (valid_install (e := a) h) hb
  exact look_nonempty hx
/-! relocating -/
theorem find_look {L : List Ent} (h : validB L = true) (b : Int) : findE L b = lookE L b := by unfold findE; rw [if_pos h]
theorem moves_iff {L : List Ent} {b v fz fo tz to m : Int} {x : Ent} (h : validB L = true) (hx : lookE L b = some x) : moves L b v fz fo tz to m = true ↔ x.version = v ∧ x.zone = fz ∧ x.offset = fo ∧ 0 ≤ tz ∧ 0 ≤ to ∧ 0 ≤ m ∧ m ≤ 255 := by
  unfold moves
  rw [find_look h, hx]
  simp [Bool.and_eq_true, and_assoc]
theorem reloc_moved {L : List Ent} {b v fz fo tz to m : Int} {x : Ent} (h : validB L = true) (hx : lookE L b = some x) (hm : moves L b v fz fo tz to m = true) : relocL L b v fz fo tz to m = ins L (moved x tz to m) := by
  unfold relocL
  rw [if_pos h, if_pos hm, hx]
theorem reloc_same {L : List Ent} {b v fz fo tz to m : Int} (h : validB L = true) (hm : moves L b v fz fo tz to m = false) : relocL L b v fz fo tz to m = L := by
  unfold relocL
  rw [if_pos h, if_neg (by rw [hm]; decide)]
theorem ok_moved {x : Ent} {tz to m : Int} (h : okE x = true) (h1 : 0 ≤ tz) (h2 : 0 ≤ to) (h3 : 0 ≤ m) (h4 : m ≤ 255) : okE (moved x tz to m) = true := by
  unfold okE moved at *
  simp only [Bool.and_eq_true, Bool.or_eq_true, decide_eq_true_eq] at *
  omega
theorem valid_reloc {L : List Ent} {b v fz fo tz to m : Int} (h : validB L = true) : validB (relocL L b v fz fo tz to m) = true := by
  cases hm : moves L b v fz fo tz to m
  · rw [reloc_same h hm]; exact h
  · cases hx : lookE L b with
    | none =>
      unfold moves at hm
      rw [find_look h, hx] at hm
      cases hm
    | some x =>
      rw [reloc_moved h hx hm]
      have h2 := (moves_iff h hx).1 hm
      exact valid_ins h (ok_moved ((valid_iff.1 h).1 x (look_mem hx)) h2.2.2.2.1 h2.2.2.2.2.1 h2.2.2.2.2.2.1 h2.2.2.2.2.2.2)
theorem look_reloc {L : List Ent} {b v fz fo tz to m : Int} {x : Ent} (h : validB L = true) (hx : lookE L b = some x) (hm : moves L b v fz fo tz to m = true) (c : Int) : lookE (relocL L b v fz fo tz to m) c = if b = c then some (moved x tz to m) else lookE L c := by
  rw [reloc_moved h hx hm, look_ins]
  have : (moved x tz to m).block = b := show x.block = b from look_block hx
  rw [this]
theorem reloc_length (L : List Ent) (b v fz fo tz to m : Int) : (relocL L b v fz fo tz to m).length ≤ L.length + 1 := by
  unfold relocL
  split
  · split
    · split
      · omega
      · exact ins_length _ _
    · omega
  · simp
/-- a relocation and an install of different blocks in either order -/
theorem reloc_install {L : List Ent} {b v fz fo tz to m : Int} {x e : Ent} (h : validB L = true) (he : okE e = true) (hx : lookE L b = some x) (hb : b ≠ e.block) (hm : moves L b v fz fo tz to m = true) :
    moves (installL L e) b v fz fo tz to m = true ∧ installL (relocL L b v fz fo tz to m) e = relocL (installL L e) b v fz fo tz to m := by
  have hx2 : lookE (installL L e) b = some x := by rw [look_install h he, if_neg (fun h => hb h.symm)]; exact hx
  have hm2 : moves (installL L e) b v fz fo tz to m = true := (moves_iff (valid_install h) hx2).2 ((moves_iff h hx).1 hm)
  refine ⟨hm2, valid_ext (valid_install (valid_reloc h)) (valid_reloc (valid_install h)) fun c => ?_⟩
  rw [look_install (valid_reloc h) he, look_reloc h hx hm, look_reloc (valid_install h) hx2 hm2, look_install h he]
  by_cases h1 : b = c
  · rw [if_neg (by omega), if_pos h1, if_pos h1]
  · rw [if_neg h1, if_neg h1]
/-! dropping -/
theorem stay_eq {L : List Ent} {c : Int} (h : validB L = true) : stayL L c = L.filter (fun e => !gone c e) := by unfold stayL; rw [if_pos h]
theorem gone_eq {L : List Ent} {c : Int} (h : validB L = true) : goneL L c = L.filter (gone c) := by unfold goneL; rw [if_pos h]
theorem valid_stay {L : List Ent} {c : Int} (h : validB L = true) : validB (stayL L c) = true := by rw [stay_eq h]; exact valid_filter _ h
theorem stay_gone {L : List Ent} {c : Int} (h : validB L = true) : (stayL L c).length + (goneL L c).length = L.length := by
  rw [stay_eq h, gone_eq h]
  induction L with
  | nil => rfl
  | cons x L ih =>
    have ih2 : (L.filter (fun e => !gone c e)).length + (L.filter (gone c)).length = L.length := by
      have hs : validB L = true := by
        obtain ⟨h1, h2⟩ := valid_iff.1 h
        exact valid_iff.2 ⟨fun e he => h1 e (List.mem_cons_of_mem _ he), (List.pairwise_cons.1 h2).2⟩
      exact ih hs
    rw [List.filter_cons, List.filter_cons]
    cases gone c x <;> simp only [Bool.not_false, Bool.not_true, if_true, List.length_cons] <;> simp <;> omega
theorem stay_again {L : List Ent} {c : Int} (h : validB L = true) : stayL (stayL L c) c = stayL L c ∧ goneL (stayL L c) c = [] := by
  rw [stay_eq (valid_stay h), gone_eq (valid_stay h), stay_eq h]
  constructor
  · rw [List.filter_filter]
    congr 1
    funext e
    cases gone c e <;> rfl
  · rw [List.filter_filter, List.filter_eq_nil_iff]
    intro e _
    cases gone c e <;> decide
theorem stay_two {L : List Ent} {p q : Int} (h : validB L = true) : stayL (stayL L p) q = stayL L (max p q) := by
  rw [stay_eq (valid_stay h), stay_eq h, stay_eq h, List.filter_filter]
  congr 1
  funext e
  unfold gone
  by_cases hk : e.kind = 2
  · simp only [hk, decide_true, Bool.true_and]
    by_cases h1 : e.version < p <;> by_cases h2 : e.version < q
    · simp [h1, h2, show e.version < max p q by omega]
    · simp [h1, h2, show e.version < max p q by omega]
    · simp [h1, h2, show e.version < max p q by omega]
    · simp [h1, h2, show ¬ e.version < max p q by omega]
  · simp [hk]
theorem find_stay {L : List Ent} {c : Int} (h : validB L = true) {x : Ent} (hx : x ∈ L) : (findE (stayL L c) x.block).isSome = !gone c x := by
  rw [find_look (valid_stay h), stay_eq h, look_filter _ (valid_iff.1 h).2, look_asc (valid_iff.1 h).2 hx]
  cases hg : gone c x <;> simp [Option.filter, hg]
end Go.Proofs.Ytjdlekjikemdpaa.EntMath
