/- Texts that belong together, part 1. -/

/- Entries of the map, lists of them, and what layer 8 of the document says of them. Plain mathematics. -/
namespace Go.Proofs.Ytkamadeekkccgaa.EntMath
structure Ent where
  block : Int
  kind : Int
  version : Int
  move : Int
  zone : Int
  offset : Int
deriving DecidableEq
def zeroE : Ent := ⟨0, 0, 0, 0, 0, 0⟩
/-- may an entry be in a shard -/
def okE (e : Ent) : Bool :=
  (decide (e.kind = 1) || decide (e.kind = 2)) && decide (1 ≤ e.version) && decide (e.version ≤ 1099511627776) && decide (0 ≤ e.move) && decide (e.move ≤ 255) && decide (0 ≤ e.block) && decide (0 ≤ e.zone) && decide (0 ≤ e.offset)
/-- is the entry at a place as it must be, beside the one ahead of it -/
def okAt (L : List Ent) : Nat → Bool
  | 0 => match L[0]? with | none => true | some e => okE e
  | i + 1 => match L[i]?, L[i + 1]? with | some d, some e => okE e && decide (d.block < e.block) | _, _ => true
/-- is it a shard -/
def validB (L : List Ent) : Bool := (List.range L.length).all (okAt L)
/-- the first place whose entry has at least this block -/
def place (L : List Ent) (b : Int) : Nat := L.findIdx fun e => decide (b ≤ e.block)
/-- the entry of a block -/
def lookE (L : List Ent) (b : Int) : Option Ent := L.find? fun e => decide (e.block = b)
/-- an entry put in its place -/
def ins : List Ent → Ent → List Ent
  | [], e => [e]
  | x :: L, e => if x.block < e.block then x :: ins L e else if x.block = e.block then e :: L else e :: x :: L
def findE (L : List Ent) (b : Int) : Option Ent := if validB L = true then lookE L b else none
/-- what Install gives -/
def newer (L : List Ent) (e : Ent) : Bool := validB L && okE e && match lookE L e.block with | none => true | some x => decide (x.version < e.version)
def installL (L : List Ent) (e : Ent) : List Ent := if validB L = true then (if newer L e = true then ins L e else L) else []
def installE (L : List Ent) (e : Ent) : Ent := if validB L = true ∧ okE e = true then (lookE L e.block).getD zeroE else zeroE
/-- what Relocate gives -/
def moves (L : List Ent) (b v fz fo tz tu m : Int) : Bool := match findE L b with
  | none => false
  | some x => decide (x.version = v) && decide (x.zone = fz) && decide (x.offset = fo) && decide (0 ≤ tz) && decide (0 ≤ tu) && decide (0 ≤ m) && decide (m ≤ 255)
def moved (x : Ent) (tz tu m : Int) : Ent := ⟨x.block, x.kind, x.version, m, tz, tu⟩
def relocL (L : List Ent) (b v fz fo tz tu m : Int) : List Ent :=
  if validB L = true then (if moves L b v fz fo tz tu m = true then (match lookE L b with | none => L | some x => ins L (moved x tz tu m)) else L) else []
/-- what Drop gives -/
def gone (cut : Int) (e : Ent) : Bool := decide (e.kind = 2) && decide (e.version < cut)
def stayL (L : List Ent) (cut : Int) : List Ent := if validB L = true then L.filter (fun e => !gone cut e) else []
def goneL (L : List Ent) (cut : Int) : List Ent := if validB L = true then L.filter (gone cut) else []

/-! a shard -/
def Asc (L : List Ent) : Prop := L.Pairwise fun x y => x.block < y.block
theorem okAt_iff {L : List Ent} {i : Nat} {e : Ent} (h : L[i]? = some e) : okAt L i = true ↔ okE e = true ∧ ∀ d, 0 < i → L[i - 1]? = some d → d.block < e.block := by
  cases i with
  | zero =>
    simp only [okAt, h]
    exact ⟨fun h => ⟨h, fun _ h => absurd h (by omega)⟩, fun h => h.1⟩
  | succ i =>
    simp only [okAt, h, Nat.add_sub_cancel]
    cases hd : L[i]? with
    | none =>
      have := (List.getElem?_eq_some_iff.1 h).1
      rw [List.getElem?_eq_none_iff] at hd
      omega
    | some d =>
      simp only [Bool.and_eq_true, decide_eq_true_eq]
      exact ⟨fun h => ⟨h.1, fun d' _ h' => by obtain rfl := Option.some.inj h'; exact h.2⟩, fun h => ⟨h.1, h.2 d (by omega) rfl⟩⟩
theorem valid_at {L : List Ent} (h : validB L = true) {i : Nat} {e : Ent} (he : L[i]? = some e) : okAt L i = true := by
  have hi := (List.getElem?_eq_some_iff.1 he).1
  exact List.all_eq_true.1 h i (List.mem_range.2 hi)
theorem valid_iff {L : List Ent} : validB L = true ↔ (∀ e ∈ L, okE e = true) ∧ Asc L := by
  constructor
  · intro h
    refine ⟨fun e he => ?_, ?_⟩
    · obtain ⟨i, hi⟩ := List.mem_iff_getElem?.1 he
      exact ((okAt_iff hi).1 (valid_at h hi)).1
    · rw [Asc, List.pairwise_iff_getElem]
      have step : ∀ k i (hi : i < L.length) (hj : i + k + 1 < L.length), L[i].block < L[i + k + 1].block := by
        intro k
        induction k with
        | zero =>
          intro i hi hj
          have h2 := (okAt_iff (List.getElem?_eq_getElem hj)).1 (valid_at h (List.getElem?_eq_getElem hj))
          exact h2.2 L[i] (by omega) (by simp only [Nat.add_zero, Nat.add_sub_cancel]; exact List.getElem?_eq_getElem hi)
        | succ k ih =>
          intro i hi hj
          have h1 := ih i hi (by omega)
          have h2 := (okAt_iff (List.getElem?_eq_getElem hj)).1 (valid_at h (List.getElem?_eq_getElem hj))
          have h3 := h2.2 (L[i + k + 1]'(by omega)) (by omega) (by
            rw [show i + (k + 1) + 1 - 1 = i + k + 1 by omega]
            exact List.getElem?_eq_getElem _)
          exact Int.lt_trans h1 h3
      intro i j hi hj hij
      have := step (j - i - 1) i hi (by omega)
      simp only [show i + (j - i - 1) + 1 = j by omega] at this
      exact this
  · rintro ⟨h1, h2⟩
    rw [Asc, List.pairwise_iff_getElem] at h2
    refine List.all_eq_true.2 fun i hi => ?_
    have hi := List.mem_range.1 hi
    refine (okAt_iff (List.getElem?_eq_getElem hi)).2 ⟨h1 _ (List.getElem_mem hi), fun d h0 hd => ?_⟩
    obtain ⟨hl, rfl⟩ := List.getElem?_eq_some_iff.1 hd
    exact h2 (i - 1) i hl hi (by omega)
theorem valid_nil : validB [] = true := rfl
/-! looking up -/
theorem look_cons (x : Ent) (L : List Ent) (b : Int) : lookE (x :: L) b = if x.block = b then some x else lookE L b := by
  unfold lookE
  rw [List.find?_cons]
  by_cases h : x.block = b <;> simp [h]
theorem look_block {L : List Ent} {b : Int} {x : Ent} (h : lookE L b = some x) : x.block = b := by
  have := List.find?_some h
  simpa using this
theorem look_mem {L : List Ent} {b : Int} {x : Ent} (h : lookE L b = some x) : x ∈ L := List.mem_of_find?_eq_some h
theorem look_none {L : List Ent} {b : Int} (h : ∀ x ∈ L, x.block ≠ b) : lookE L b = none := by
  unfold lookE
  rw [List.find?_eq_none]
  intro x hx
  simpa using h x hx
theorem look_asc {L : List Ent} (h : Asc L) {x : Ent} (hx : x ∈ L) : lookE L x.block = some x := by
  induction L with
  | nil => cases hx
  | cons y L ih =>
    rw [look_cons]
    rw [Asc, List.pairwise_cons] at h
    rcases List.mem_cons.1 hx with rfl | hx
    · rw [if_pos rfl]
    · have := h.1 x hx
      rw [if_neg (by omega)]
      exact ih h.2 hx
/-- lists that ascend are equal where they say the same of each block -/
theorem asc_ext {L M : List Ent} (hL : Asc L) (hM : Asc M) (h : ∀ b, lookE L b = lookE M b) : L = M := by
  induction L generalizing M with
  | nil =>
    cases M with
    | nil => rfl
    | cons m M =>
      have := h m.block
      rw [look_cons, if_pos rfl] at this
      cases this
  | cons l L ih =>
    cases M with
    | nil =>
      have := h l.block
      rw [look_cons, if_pos rfl] at this
      cases this
    | cons m M =>
      have hl := hL
      have hm := hM
      rw [Asc, List.pairwise_cons] at hl hm
      have h1 := h l.block
      rw [look_cons, if_pos rfl] at h1
      have h2 := h m.block
      rw [look_cons m M, if_pos rfl] at h2
      have h3 : l = m := by
        rcases List.mem_cons.1 (look_mem h1.symm) with h4 | h4
        · exact h4
        · rcases List.mem_cons.1 (look_mem h2) with h5 | h5
          · exact h5.symm
          · have := hm.1 l h4
            have := hl.1 m h5
            omega
      subst h3
      congr 1
      refine ih hl.2 hm.2 fun b => ?_
      have h4 := h b
      rw [look_cons, look_cons] at h4
      by_cases hb : l.block = b
      · subst hb
        rw [look_none (fun x hx => by have := hl.1 x hx; omega), look_none (fun x hx => by have := hm.1 x hx; omega)]
      · rwa [if_neg hb, if_neg hb] at h4
/-! the place -/
theorem place_cons (x : Ent) (L : List Ent) (b : Int) : place (x :: L) b = if b ≤ x.block then 0 else place L b + 1 := by
  unfold place
  rw [List.findIdx_cons]
  by_cases h : b ≤ x.block <;> simp [h]
theorem place_le (L : List Ent) (b : Int) : place L b ≤ L.length := List.findIdx_le_length
theorem place_before {L : List Ent} {b : Int} {i : Nat} {x : Ent} (h : L[i]? = some x) (hi : i < place L b) : x.block < b := by
  obtain ⟨hl, rfl⟩ := List.getElem?_eq_some_iff.1 h
  have := List.not_of_lt_findIdx hi
  simpa using this
theorem place_at {L : List Ent} {b : Int} {x : Ent} (h : L[place L b]? = some x) : b ≤ x.block := by
  obtain ⟨hl, rfl⟩ := List.getElem?_eq_some_iff.1 h
  have := @List.findIdx_getElem Ent (fun e => decide (b ≤ e.block)) L hl
  simp only [decide_eq_true_eq] at this
  exact this
theorem place_is {L : List Ent} {b : Int} {k : Nat} (h1 : ∀ i x, i < k → L[i]? = some x → x.block < b) (h2 : ∀ x, L[k]? = some x → b ≤ x.block) (hk : k ≤ L.length) : place L b = k := by
  rcases Nat.lt_trichotomy (place L b) k with h | h | h
  · have hl : place L b < L.length := by omega
    have h3 := h1 _ _ h (List.getElem?_eq_getElem hl)
    have h4 := place_at (List.getElem?_eq_getElem hl)
    omega
  · exact h
  · have hl : k < L.length := by have := place_le L b; omega
    have h3 := h2 _ (List.getElem?_eq_getElem hl)
    have h4 := place_before (List.getElem?_eq_getElem hl) h
    omega
theorem look_place {L : List Ent} (h : Asc L) (b : Int) : lookE L b = (match L[place L b]? with | none => none | some x => if x.block = b then some x else none) := by
  induction L with
  | nil => rfl
  | cons y L ih =>
    rw [look_cons, place_cons]
    rw [Asc, List.pairwise_cons] at h
    by_cases h1 : b ≤ y.block
    · rw [if_pos h1]
      simp only [List.getElem?_cons_zero]
      by_cases h2 : y.block = b
      · rw [if_pos h2, if_pos h2]
      · rw [if_neg h2, if_neg h2]
        exact look_none fun x hx => by have := h.1 x hx; omega
    · rw [if_neg h1, if_neg (by omega)]
      simp only [List.getElem?_cons_succ]
      exact ih h.2
/-! putting in -/
theorem ins_place {L : List Ent} (e : Ent) (h : lookE L e.block = none) (hA : Asc L) : L.take (place L e.block) ++ e :: L.drop (place L e.block) = ins L e := by
  induction L with
  | nil => rfl
  | cons x L ih =>
    rw [look_cons] at h
    rw [Asc, List.pairwise_cons] at hA
    rw [place_cons, ins]
    by_cases h1 : e.block ≤ x.block
    · have h2 : x.block ≠ e.block := fun h2 => by rw [if_pos h2] at h; cases h
      rw [if_pos h1, if_neg (by omega), if_neg h2]
      rfl
    · rw [if_neg (show ¬ x.block = e.block by omega)] at h
      rw [if_neg h1, if_pos (by omega)]
      simp only [List.take_succ_cons, List.drop_succ_cons, List.cons_append]
      rw [ih h hA.2]
theorem ins_over {L : List Ent} (e x : Ent) (h : lookE L e.block = some x) (hA : Asc L) : L.take (place L e.block) ++ e :: L.drop (place L e.block + 1) = ins L e := by
  induction L with
  | nil => cases h
  | cons y L ih =>
    rw [look_cons] at h
    rw [Asc, List.pairwise_cons] at hA
    rw [place_cons, ins]
    by_cases h1 : e.block ≤ y.block
    · have h2 : y.block = e.block := by
        by_cases h2 : y.block = e.block
        · exact h2
        · rw [if_neg h2] at h
          have h3 := hA.1 x (look_mem h)
          have h4 := look_block h
          omega
      rw [if_pos h1, if_neg (by omega), if_pos h2]
      rfl
    · rw [if_neg (show ¬ y.block = e.block by omega)] at h
      rw [if_neg h1, if_pos (by omega)]
      simp only [List.take_succ_cons, List.drop_succ_cons, List.cons_append]
      rw [ih h hA.2]
theorem ins_set {L : List Ent} (e x : Ent) (h : lookE L e.block = some x) (hA : Asc L) : L.set (place L e.block) e = ins L e := by
  rw [← ins_over e x h hA]
  have hlp := look_place hA e.block
  have hlt : place L e.block < L.length := by
    rcases Nat.lt_or_ge (place L e.block) L.length with hl | hl
    · exact hl
    · rw [List.getElem?_eq_none hl, h] at hlp
      cases hlp
  exact List.set_eq_take_append_cons_drop.trans (if_pos hlt)
theorem look_ins (L : List Ent) (e : Ent) (b : Int) : lookE (ins L e) b = if e.block = b then some e else lookE L b := by
  induction L with
  | nil => rw [ins, look_cons]
  | cons x L ih =>
    rw [ins]
    by_cases h1 : x.block < e.block
    · rw [if_pos h1, look_cons, ih, look_cons]
      by_cases h2 : e.block = b
      · rw [if_neg (by omega), if_pos h2, if_pos h2]
      · rw [if_neg h2, if_neg h2]
    · rw [if_neg h1]
      by_cases h2 : x.block = e.block
      · rw [if_pos h2, look_cons, look_cons]
        by_cases h3 : e.block = b
        · rw [if_pos h3, if_pos h3]
        · rw [if_neg h3, if_neg h3, if_neg (by omega)]
      · rw [if_neg h2, look_cons]
theorem mem_ins {L : List Ent} {e x : Ent} (h : x ∈ ins L e) : x = e ∨ x ∈ L := by
  induction L with
  | nil => rw [ins] at h; exact .inl (List.mem_singleton.1 h)
  | cons y L ih =>
    rw [ins] at h
    split at h
    · rcases List.mem_cons.1 h with h | h
      · exact .inr (List.mem_cons.2 (.inl h))
      · exact (ih h).imp id (fun h => List.mem_cons_of_mem _ h)
    · split at h
      · rcases List.mem_cons.1 h with h | h
        · exact .inl h
        · exact .inr (List.mem_cons_of_mem _ h)
      · rcases List.mem_cons.1 h with h | h
        · exact .inl h
        · exact .inr h
theorem asc_ins {L : List Ent} (e : Ent) (h : Asc L) : Asc (ins L e) := by
  induction L with
  | nil => exact List.pairwise_singleton _ _
  | cons y L ih =>
    have h0 := h
    rw [Asc, List.pairwise_cons] at h
    rw [ins]
    by_cases h1 : y.block < e.block
    · rw [if_pos h1, Asc, List.pairwise_cons]
      refine ⟨fun x hx => ?_, ih h.2⟩
      rcases mem_ins hx with rfl | hx
      · exact h1
      · exact h.1 x hx
    · rw [if_neg h1]
      by_cases h2 : y.block = e.block
      · rw [if_pos h2, Asc, List.pairwise_cons]
        exact ⟨fun x hx => by have := h.1 x hx; omega, h.2⟩
      · rw [if_neg h2, Asc, List.pairwise_cons]
        refine ⟨fun x hx => ?_, h0⟩
        rcases List.mem_cons.1 hx with rfl | hx
        · omega
        · have := h.1 x hx; omega
theorem valid_ins {L : List Ent} {e : Ent} (h : validB L = true) (he : okE e = true) : validB (ins L e) = true := by
  obtain ⟨h1, h2⟩ := valid_iff.1 h
  refine valid_iff.2 ⟨fun x hx => ?_, asc_ins e h2⟩
  rcases mem_ins hx with rfl | hx
  · exact he
  · exact h1 x hx
/-! dropping -/
theorem asc_filter {L : List Ent} (p : Ent → Bool) (h : Asc L) : Asc (L.filter p) := h.sublist List.filter_sublist
theorem valid_filter {L : List Ent} (p : Ent → Bool) (h : validB L = true) : validB (L.filter p) = true := by
  obtain ⟨h1, h2⟩ := valid_iff.1 h
  exact valid_iff.2 ⟨fun x hx => h1 x (List.mem_filter.1 hx).1, asc_filter p h2⟩
theorem look_filter {L : List Ent} (p : Ent → Bool) (h : Asc L) (b : Int) : lookE (L.filter p) b = (lookE L b).filter p := by
  induction L with
  | nil => rfl
  | cons x L ih =>
    rw [Asc, List.pairwise_cons] at h
    rw [look_cons, List.filter_cons]
    by_cases hp : p x = true
    · rw [if_pos hp, look_cons]
      by_cases h1 : x.block = b
      · rw [if_pos h1, if_pos h1]; simp only [Option.filter, hp, if_true]
      · rw [if_neg h1, if_neg h1]; exact ih h.2
    · rw [if_neg hp]
      by_cases h1 : x.block = b
      · rw [if_pos h1, ih h.2, look_none (fun y hy => by have := h.1 y hy; omega)]
        simp only [Option.filter, hp]
        rfl
      · rw [if_neg h1]; exact ih h.2
end Go.Proofs.Ytkamadeekkccgaa.EntMath

/- Commands: what layer 15 of the document says of them. Plain mathematics. -/
namespace Go.Proofs.Ytkamadeekkccgaa.CmdMath
/-- the error of a command of kind k on block b with n bytes, of a device of nb blocks -/
def checkC (nb k b : Int) (n : Nat) : Int :=
  if k < 1 ∨ 4 < k then 3
  else if (k = 4 ∧ b ≠ 0) ∨ (k ≠ 4 ∧ (b < 0 ∨ nb ≤ b)) then 1
  else if (k = 2 ∧ n ≠ 16) ∨ (k ≠ 2 ∧ n ≠ 0) then 2
  else 0
def kindC (k : Int) : ByteArray :=
  if k = 1 then ⟨#[114, 101, 97, 100]⟩ else if k = 2 then ⟨#[119, 114, 105, 116, 101]⟩ else if k = 3 then ⟨#[116, 114, 105, 109]⟩ else if k = 4 then ⟨#[102, 108, 117, 115, 104]⟩ else ⟨#[]⟩
def zeroC : ByteArray := ⟨#[0, 0, 0, 0, 0, 0, 0, 0, 0, 0, 0, 0, 0, 0, 0, 0]⟩
theorem check_more {nb m k b : Int} {n : Nat} (hm : 0 ≤ m) (h : checkC nb k b n = 0) : checkC (nb + m) k b n = 0 := by
  unfold checkC at h ⊢
  split at h
  · omega
  · rename_i h1
    rw [if_neg h1]
    split at h
    · omega
    · rename_i h2
      rw [if_neg (by omega)]
      exact h
end Go.Proofs.Ytkamadeekkccgaa.CmdMath

/- Configurations and layouts as numbers: what layer 7 of the document says of them. Plain mathematics. -/
namespace Go.Proofs.Ytkamadeekkccgaa.LayMath
/-- are the six numbers in their ranges -/
def inR (z s b q d h : Int) : Bool :=
  decide (3 ≤ s) && decide (s ≤ 64) && decide (1 ≤ z) && decide (z ≤ 32) && decide (1 ≤ b) && decide (b ≤ 128) &&
    decide (1 ≤ q) && decide (q ≤ 4) && decide (1 ≤ d) && decide (d ≤ 8) && decide (1 ≤ h) && decide (h ≤ 8)
/-- the zones of a slot -/
def slotN (s b : Int) : Int := (b + 2 + s - 1) / s
/-- the data zones -/
def dataN (z s b : Int) : Int := z - 2 * slotN s b
/-- the capacity -/
def capN (z s b q : Int) : Int := (dataN z s b - 3) * (s - 1) - q - 1
/-- is there enough for data -/
def fits (z s b q : Int) : Bool := !(decide (dataN z s b < 6) || decide (capN z s b q < 1))
/-- the error of a configuration -/
def errN (z s b q d h : Int) : Int := if inR z s b q d h = true then (if fits z s b q = true then 0 else 11) else 1
theorem errN_out {z s b q d h : Int} (hr : inR z s b q d h = false) : errN z s b q d h = 1 := by simp [errN, hr]
theorem errN_tight {z s b q d h : Int} (hr : inR z s b q d h = true) (hf : fits z s b q = false) : errN z s b q d h = 11 := by simp [errN, hr, hf]
theorem errN_fit {z s b q d h : Int} (hr : inR z s b q d h = true) (hf : fits z s b q = true) : errN z s b q d h = 0 := by simp [errN, hr, hf]
theorem errN_zero {z s b q d h : Int} (he : errN z s b q d h = 0) : inR z s b q d h = true ∧ fits z s b q = true := by
  unfold errN at he
  split at he
  · split at he
    · exact ⟨by assumption, by assumption⟩
    · cases he
  · cases he
theorem inR_iff {z s b q d h : Int} : inR z s b q d h = true ↔ 3 ≤ s ∧ s ≤ 64 ∧ 1 ≤ z ∧ z ≤ 32 ∧ 1 ≤ b ∧ b ≤ 128 ∧ 1 ≤ q ∧ q ≤ 4 ∧ 1 ≤ d ∧ d ≤ 8 ∧ 1 ≤ h ∧ h ≤ 8 := by
  simp [inR, Bool.and_eq_true, and_assoc]
theorem inR_not {z s b q d h : Int} (hn : ¬ (3 ≤ s ∧ s ≤ 64 ∧ 1 ≤ z ∧ z ≤ 32 ∧ 1 ≤ b ∧ b ≤ 128 ∧ 1 ≤ q ∧ q ≤ 4 ∧ 1 ≤ d ∧ d ≤ 8 ∧ 1 ≤ h ∧ h ≤ 8)) : inR z s b q d h = false := by
  cases hE : inR z s b q d h
  · rfl
  · exact absurd (inR_iff.1 hE) hn
theorem slot_bounds {s b : Int} (hs : 3 ≤ s) (h2 : s ≤ 64) (hb : 1 ≤ b) (hb2 : b ≤ 128) : 1 ≤ slotN s b ∧ slotN s b ≤ 64 := by
  unfold slotN
  constructor
  · exact (Int.le_ediv_iff_mul_le (by omega)).2 (by omega)
  · have h1 : (b + 2 + s - 1) / s < 65 := (Int.ediv_lt_iff_lt_mul (by omega)).2 (by omega)
    omega
theorem cap_bounds {z s b : Int} (hs : 3 ≤ s) (h2 : s ≤ 64) (hb : 1 ≤ b) (hb2 : b ≤ 128) (hz : 1 ≤ z) (hz2 : z ≤ 32) :
    (-130 ≤ dataN z s b - 3 ∧ dataN z s b - 3 ≤ 29) ∧ (-8190 ≤ (dataN z s b - 3) * (s - 1) ∧ (dataN z s b - 3) * (s - 1) ≤ 1827) := by
  obtain ⟨l1, l2⟩ := slot_bounds hs h2 hb hb2
  unfold dataN
  generalize slotN s b = k at l1 l2 ⊢
  refine ⟨by omega, ?_⟩
  have h1 : (z - 2 * k - 3) * (s - 1) ≤ 29 * (s - 1) := Int.mul_le_mul_of_nonneg_right (by omega) (by omega)
  have h3 : -130 * (s - 1) ≤ (z - 2 * k - 3) * (s - 1) := Int.mul_le_mul_of_nonneg_right (by omega) (by omega)
  omega
theorem slot_room {s b : Int} (hs : 3 ≤ s) : b + 2 ≤ slotN s b * s := by
  unfold slotN
  have h1 := Int.ediv_mul_add_emod (b + 2 + s - 1) s
  have h2 := Int.emod_lt_of_pos (b + 2 + s - 1) (b := s) (by omega)
  have h3 := Int.emod_nonneg (b + 2 + s - 1) (b := s) (by omega)
  omega
/-- the numbers P, P + 1, .. -/
def upto (P : Int) (n : Nat) : List Int := (List.range n).map fun (i : Nat) => P + (i : Int)
/-- the zones of a slot, as a list -/
def slotsL (z s b q d h k : Int) : List Int := if errN z s b q d h = 0 ∧ (k = 0 ∨ k = 1) then upto (k * slotN s b) (slotN s b).toNat else []
theorem slotsL_no {z s b q d h k : Int} (hk : ¬ errN z s b q d h = 0 ∨ ¬ (k = 0 ∨ k = 1)) : slotsL z s b q d h k = [] := by
  unfold slotsL; rw [if_neg (fun h => hk.elim (fun e => e h.1) (fun e => e h.2))]
theorem slotsL_yes {z s b q d h k : Int} {n : Nat} (he : errN z s b q d h = 0) (hk : k = 0 ∨ k = 1) (hn : slotN s b = n) : slotsL z s b q d h k = upto (k * (n : Int)) n := by
  unfold slotsL; rw [if_pos ⟨he, hk⟩, hn, Int.toNat_natCast]
end Go.Proofs.Ytkamadeekkccgaa.LayMath
