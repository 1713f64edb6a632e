/- Texts that belong together, part 2. -/
import Derived.Test.YtbfoagfemgogkaaPack1

/- Epochs, and what layer 12 of the document says of them. Plain mathematics. -/
namespace Go.Proofs.Ytbfoagfemgogkaa.EpoMath
structure Ret where
  zone : Int
  epoch : Int
deriving DecidableEq
structure Epo where
  glob : Int
  pins : List Int
  zones : List Ret
deriving DecidableEq
def isRet (Z : List Ret) (z : Int) : Bool := Z.any fun r => decide (r.zone = z)
def okPin (G p : Int) : Bool := decide (p = -1) || (decide (0 ≤ p) && (decide (p = G) || decide (p = G - 1)))
def okRet (G : Int) (Z : List Ret) (i : Nat) : Bool := match Z[i]? with
  | some r => decide (0 ≤ r.epoch) && decide (r.epoch ≤ G) && decide (0 ≤ r.zone) && !isRet (Z.take i) r.zone
  | none => true
def okHead (E : Epo) : Bool := decide (1 ≤ E.pins.length) && decide (E.pins.length ≤ 4) && decide (0 ≤ E.glob) && decide (E.glob ≤ 1099511627776)
def okRets (G : Int) (Z : List Ret) : Bool := (List.range Z.length).all (okRet G Z)
def validE (E : Epo) : Bool := okHead E && E.pins.all (okPin E.glob) && okRets E.glob E.zones
def newE (s : Int) : Epo := if 1 ≤ s ∧ s ≤ 4 then ⟨0, List.replicate s.toNat (-1), []⟩ else ⟨0, [], []⟩
def newEE (s : Int) : Int := if 1 ≤ s ∧ s ≤ 4 then 0 else 1
def inE (E : Epo) (s : Int) : Bool := validE E && decide (0 ≤ s) && decide (s < (E.pins.length : Int))
def pinned (E : Epo) (s p : Int) : Epo := ⟨E.glob, E.pins.set s.toNat p, E.zones⟩
def pinB (E : Epo) (s : Int) : Bool := inE E s && decide (E.pins.getD s.toNat 0 = -1)
def pinE (E : Epo) (s : Int) : Epo := if pinB E s = true then pinned E s E.glob else E
def unpinB (E : Epo) (s : Int) : Bool := inE E s && !decide (E.pins.getD s.toNat 0 = -1)
def unpinE (E : Epo) (s : Int) : Epo := if unpinB E s = true then pinned E s (-1) else E
def retireB (E : Epo) (z : Int) : Bool := validE E && decide (0 ≤ z) && !isRet E.zones z
def retireE (E : Epo) (z : Int) : Epo := if retireB E z = true then ⟨E.glob, E.pins, E.zones ++ [⟨z, E.glob⟩]⟩ else E
def old (G : Int) (r : Ret) : Bool := decide (r.epoch ≤ G - 2)
def readyR (E : Epo) : Option Ret := if validE E = true then E.zones.find? (old E.glob) else none
def readyB (E : Epo) : Bool := (readyR E).isSome
def zOf : Option Ret → Int
  | some r => r.zone
  | none => 0
def readyZ (E : Epo) : Int := zOf (readyR E)
def forgetB (E : Epo) (z : Int) : Bool := readyB E && decide (readyZ E = z)
def other (z : Int) (r : Ret) : Bool := !decide (r.zone = z)
def forgetE (E : Epo) (z : Int) : Epo := if forgetB E z = true then ⟨E.glob, E.pins, E.zones.filter (other z)⟩ else E
def atG (G p : Int) : Bool := decide (p = -1) || decide (p = G)
def advB (E : Epo) : Bool := validE E && !decide (E.glob = 1099511627776) && E.pins.all (atG E.glob)
def advE (E : Epo) : Epo := if advB E = true then ⟨E.glob + 1, E.pins, E.zones⟩ else E
theorem ret_take {Z : List Ret} {z : Int} {j : Nat} {r : Ret} (h : Z[j]? = some r) : isRet (Z.take (j + 1)) z = (isRet (Z.take j) z || decide (r.zone = z)) := by
  unfold isRet
  rw [List.take_add_one, h, List.any_append]
  simp
theorem ret_here {Z : List Ret} {z : Int} {j u : Nat} {r : Ret} (h : Z[j]? = some r) (hj : j < u) (hz : r.zone = z) : isRet (Z.take u) z = true := by
  unfold isRet
  rw [List.any_eq_true]
  refine ⟨r, ?_, by simpa using hz⟩
  exact List.mem_of_getElem? (i := j) (by rw [List.getElem?_take, if_pos hj]; exact h)
theorem okRets_bad {G : Int} {Z : List Ret} {i : Nat} (hi : i < Z.length) (h : okRet G Z i = false) : okRets G Z = false := by
  cases ho : okRets G Z
  · rfl
  · have := List.all_eq_true.1 ho i (List.mem_range.2 hi)
    rw [h] at this
    cases this
theorem okRets_all {G : Int} {Z : List Ret} (h : ∀ i : Nat, i < Z.length → okRet G Z i = true) : okRets G Z = true :=
  List.all_eq_true.2 fun i hi => h i (List.mem_range.1 hi)
theorem okRet_at {G : Int} {Z : List Ret} {i : Nat} {r : Ret} (h : Z[i]? = some r) : okRet G Z i = (decide (0 ≤ r.epoch) && decide (r.epoch ≤ G) && decide (0 ≤ r.zone) && !isRet (Z.take i) r.zone) := by
  unfold okRet
  rw [h]
theorem all_bad {α : Type} {p : α → Bool} {L : List α} {j : Nat} {e : α} (he : L[j]? = some e) (h : p e = false) : L.all p = false := by
  cases ho : L.all p
  · rfl
  · rw [List.all_eq_true.1 ho e (List.mem_of_getElem? he)] at h; cases h
theorem all_good {α : Type} {p : α → Bool} {L : List α} (h : ∀ (j : Nat) (e : α), L[j]? = some e → p e = true) : L.all p = true :=
  List.all_eq_true.2 fun e he => by obtain ⟨j, hj⟩ := List.mem_iff_getElem?.1 he; exact h j e hj
theorem find_at {α : Type} {p : α → Bool} {L : List α} {j : Nat} {e : α} (he : L[j]? = some e) (hp : p e = true) (hb : ∀ (i : Nat) (x : α), i < j → L[i]? = some x → p x = false) : L.find? p = some e := by
  induction L generalizing j with
  | nil => cases he
  | cons x L ih =>
    cases j with
    | zero =>
      obtain rfl := Option.some.inj he
      exact List.find?_cons_of_pos hp
    | succ j =>
      rw [List.find?_cons_of_neg (by rw [hb 0 x (by omega) rfl]; decide)]
      exact ih he fun i y hi hy => hb (i + 1) y (by omega) hy
theorem find_none {α : Type} {p : α → Bool} {L : List α} (hb : ∀ (i : Nat) (x : α), L[i]? = some x → p x = false) : L.find? p = none := by
  rw [List.find?_eq_none]
  intro x hx
  obtain ⟨i, hi⟩ := List.mem_iff_getElem?.1 hx
  rw [hb i x hi]
  decide
theorem filter_step {α : Type} {L : List α} {j : Nat} {e : α} (h : L[j]? = some e) (p : α → Bool) : (L.take (j + 1)).filter p = (L.take j).filter p ++ (if p e = true then [e] else []) := by
  rw [List.take_add_one, h, Option.toList_some, List.filter_append]
  congr 1
  simp only [List.filter_cons, List.filter_nil]
theorem head_e {E : Epo} (h : validE E = true) : 1 ≤ E.pins.length ∧ E.pins.length ≤ 4 ∧ 0 ≤ E.glob ∧ E.glob ≤ 1099511627776 := by
  unfold validE okHead at h
  simp only [Bool.and_eq_true, decide_eq_true_eq] at h
  omega
theorem in_e {E : Epo} {s : Int} : inE E s = true ↔ validE E = true ∧ 0 ≤ s ∧ s < (E.pins.length : Int) := by
  unfold inE
  simp only [Bool.and_eq_true, decide_eq_true_eq, and_assoc]
end Go.Proofs.Ytbfoagfemgogkaa.EpoMath

/- Locks of stripes, and what layer 11 of the document says of them. Plain mathematics. -/
namespace Go.Proofs.Ytbfoagfemgogkaa.LckMath
def validK (O : List Int) : Bool := (O.all fun z => decide (-1 ≤ z)) && decide (1 ≤ O.length) && decide (O.length ≤ 8)
def inK (O : List Int) (s : Int) : Bool := validK O && decide (0 ≤ s) && decide (s < (O.length : Int))
def freeK (O : List Int) (s : Int) : Bool := inK O s && decide (O.getD s.toNat 0 = -1)
def takeB (O : List Int) (s t : Int) : Bool := freeK O s && decide (0 ≤ t)
def takeL (O : List Int) (s t : Int) : List Int := if takeB O s t = true then O.set s.toNat t else O
def giveB (O : List Int) (s t : Int) : Bool := inK O s && decide (0 ≤ t) && decide (O.getD s.toNat 0 = t)
def giveL (O : List Int) (s t : Int) : List Int := if giveB O s t = true then O.set s.toNat (-1) else O
/-- the stripes below k that a thread holds -/
def heldTo (O : List Int) (t : Int) (k : Nat) : List Int := ((List.range k).filter fun i : Nat => decide (O.getD i 0 = t)).map (fun i : Nat => (i : Int))
def heldL (O : List Int) (t : Int) : List Int := if 0 ≤ t then heldTo O t O.length else []
def newK (s : Int) : List Int := if 1 ≤ s ∧ s ≤ 8 then List.replicate s.toNat (-1) else []
def newKE (s : Int) : Int := if 1 ≤ s ∧ s ≤ 8 then 0 else 1
theorem valid_k {O : List Int} : validK O = true ↔ (∀ z ∈ O, -1 ≤ z) ∧ 1 ≤ O.length ∧ O.length ≤ 8 := by
  unfold validK
  simp only [Bool.and_eq_true, decide_eq_true_eq, List.all_eq_true, and_assoc]
theorem k_bad {O : List Int} {j : Nat} {z : Int} (hz : O[j]? = some z) (h : ¬ -1 ≤ z) : validK O = false := by
  cases hv : validK O
  · rfl
  · exact absurd ((valid_k.1 hv).1 z (List.mem_of_getElem? hz)) h
theorem k_all {O : List Int} (h : ∀ j : Nat, j < O.length → ∀ z, O[j]? = some z → -1 ≤ z) : validK O = (decide (1 ≤ O.length) && decide (O.length ≤ 8)) := by
  have h1 : (O.all fun z => decide (-1 ≤ z)) = true := List.all_eq_true.2 fun z hz => by
    obtain ⟨j, hj⟩ := List.mem_iff_getElem?.1 hz
    exact decide_eq_true (h j (List.getElem?_eq_some_iff.1 hj).1 z hj)
  unfold validK
  rw [h1, Bool.true_and]
theorem held_next {O : List Int} {t z : Int} {i : Nat} (h : O[i]? = some z) : heldTo O t (i + 1) = heldTo O t i ++ if z = t then [(i : Int)] else [] := by
  unfold heldTo
  rw [List.range_succ, List.filter_append, List.map_append]
  congr 1
  rw [List.filter_cons, CntMath.getD_at h]
  by_cases hz : z = t <;> simp [hz]
theorem held_len (O : List Int) (t : Int) (k : Nat) : (heldTo O t k).length ≤ k := by
  unfold heldTo
  rw [List.length_map]
  exact Nat.le_trans (List.length_filter_le _ _) (by simp)
theorem in_k {O : List Int} {s : Int} : inK O s = true ↔ validK O = true ∧ 0 ≤ s ∧ s < (O.length : Int) := by
  unfold inK
  simp only [Bool.and_eq_true, decide_eq_true_eq, and_assoc]
end Go.Proofs.Ytbfoagfemgogkaa.LckMath

/- Epochs: what stays valid, what is ready. Plain mathematics. -/
namespace Go.Proofs.Ytbfoagfemgogkaa.EpoMath
theorem rets_iff {G : Int} {Z : List Ret} : okRets G Z = true ↔ (∀ r ∈ Z, 0 ≤ r.epoch ∧ r.epoch ≤ G ∧ 0 ≤ r.zone) ∧ Z.Pairwise (fun a b => a.zone ≠ b.zone) := by
  constructor
  · intro h
    have hi : ∀ i (hi : i < Z.length), okRet G Z i = true := fun i hi => List.all_eq_true.1 h i (List.mem_range.2 hi)
    have hp : ∀ i (hi : i < Z.length), (0 ≤ Z[i].epoch ∧ Z[i].epoch ≤ G ∧ 0 ≤ Z[i].zone) ∧ isRet (Z.take i) Z[i].zone = false := fun i hl => by
      have h1 := hi i hl
      rw [okRet_at (List.getElem?_eq_getElem hl)] at h1
      simp only [Bool.and_eq_true, decide_eq_true_eq, Bool.not_eq_true'] at h1
      exact ⟨⟨h1.1.1.1, h1.1.1.2, h1.1.2⟩, h1.2⟩
    refine ⟨fun r hr => ?_, ?_⟩
    · obtain ⟨i, hl, rfl⟩ := List.mem_iff_getElem.1 hr
      exact (hp i hl).1
    · rw [List.pairwise_iff_getElem]
      intro i j hl hj hij he
      have h1 := (hp j hj).2
      rw [ret_here (List.getElem?_eq_getElem hl) hij he] at h1
      cases h1
  · rintro ⟨h1, h2⟩
    refine okRets_all fun i hi => ?_
    rw [okRet_at (List.getElem?_eq_getElem hi)]
    have h3 := h1 _ (List.getElem_mem hi)
    have h4 : isRet (Z.take i) Z[i].zone = false := by
      cases hq : isRet (Z.take i) Z[i].zone
      · rfl
      · unfold isRet at hq
        obtain ⟨r, hr, hz⟩ := List.any_eq_true.1 hq
        obtain ⟨k, hk, rfl⟩ := List.mem_iff_getElem.1 hr
        rw [List.length_take] at hk
        rw [List.getElem_take, decide_eq_true_eq] at hz
        exact absurd hz (List.pairwise_iff_getElem.1 h2 k i (by omega) hi (by omega))
    rw [h4]
    simp only [Bool.and_eq_true, decide_eq_true_eq, Bool.not_false, and_true]
    exact ⟨⟨h3.1, h3.2.1⟩, h3.2.2⟩
theorem pin_iff {G p : Int} : okPin G p = true ↔ p = -1 ∨ (0 ≤ p ∧ (p = G ∨ p = G - 1)) := by
  unfold okPin
  simp only [Bool.or_eq_true, Bool.and_eq_true, decide_eq_true_eq]
theorem valid_e {E : Epo} : validE E = true ↔ (1 ≤ E.pins.length ∧ E.pins.length ≤ 4 ∧ 0 ≤ E.glob ∧ E.glob ≤ 1099511627776) ∧ (∀ p ∈ E.pins, p = -1 ∨ (0 ≤ p ∧ (p = E.glob ∨ p = E.glob - 1))) ∧ (∀ r ∈ E.zones, 0 ≤ r.epoch ∧ r.epoch ≤ E.glob ∧ 0 ≤ r.zone) ∧ E.zones.Pairwise (fun a b => a.zone ≠ b.zone) := by
  unfold validE okHead
  simp only [Bool.and_eq_true, decide_eq_true_eq, List.all_eq_true, rets_iff, pin_iff, and_assoc]
theorem valid_pinned {E : Epo} (h : validE E = true) {s p : Int} (hp : p = -1 ∨ p = E.glob) : validE (pinned E s p) = true := by
  obtain ⟨h1, h2, h3, h4⟩ := valid_e.1 h
  refine valid_e.2 ⟨by simpa [pinned] using h1, fun q hq => ?_, h3, h4⟩
  rcases List.mem_or_eq_of_mem_set hq with h5 | h5
  · exact h2 q h5
  · subst h5
    rcases hp with hp | hp
    · exact .inl hp
    · exact .inr ⟨by have := h1.2.2.1; omega, .inl hp⟩
theorem valid_pin {E : Epo} (h : validE E = true) (s : Int) : validE (pinE E s) = true := by
  unfold pinE
  split
  · exact valid_pinned h (.inr rfl)
  · exact h
theorem valid_unpin {E : Epo} (h : validE E = true) (s : Int) : validE (unpinE E s) = true := by
  unfold unpinE
  split
  · exact valid_pinned h (.inl rfl)
  · exact h
theorem ret_iff {Z : List Ret} {z : Int} : isRet Z z = true ↔ ∃ r ∈ Z, r.zone = z := by
  unfold isRet
  simp only [List.any_eq_true, decide_eq_true_eq]
theorem valid_retire {E : Epo} (h : validE E = true) (z : Int) : validE (retireE E z) = true := by
  unfold retireE
  split
  · rename_i hr
    unfold retireB at hr
    simp only [Bool.and_eq_true, decide_eq_true_eq, Bool.not_eq_true'] at hr
    obtain ⟨h1, h2, h3, h4⟩ := valid_e.1 h
    refine valid_e.2 ⟨h1, h2, fun r hr' => ?_, List.pairwise_append.2 ⟨h4, List.pairwise_singleton _ _, fun a ha b hb => ?_⟩⟩
    · rcases List.mem_append.1 hr' with h5 | h5
      · exact h3 r h5
      · rw [List.mem_singleton.1 h5]
        exact ⟨h1.2.2.1, Int.le_refl _, hr.1.2⟩
    · rw [List.mem_singleton.1 hb]
      intro he
      have := ret_iff.2 ⟨a, ha, he⟩
      rw [hr.2] at this
      cases this
  · exact h
theorem valid_forget {E : Epo} (h : validE E = true) (z : Int) : validE (forgetE E z) = true := by
  unfold forgetE
  split
  · obtain ⟨h1, h2, h3, h4⟩ := valid_e.1 h
    exact valid_e.2 ⟨h1, h2, fun r hr => h3 r (List.mem_filter.1 hr).1, h4.filter _⟩
  · exact h
theorem adv_iff {E : Epo} : advB E = true ↔ validE E = true ∧ E.glob ≠ 1099511627776 ∧ ∀ p ∈ E.pins, p = -1 ∨ p = E.glob := by
  unfold advB atG
  simp only [Bool.and_eq_true, Bool.not_eq_true', decide_eq_false_iff_not, List.all_eq_true, Bool.or_eq_true, decide_eq_true_eq, and_assoc, ne_eq]
theorem valid_adv {E : Epo} (h : validE E = true) : validE (advE E) = true := by
  unfold advE
  split
  · rename_i ha
    obtain ⟨_, hM, hp⟩ := adv_iff.1 ha
    obtain ⟨h1, h2, h3, h4⟩ := valid_e.1 h
    refine valid_e.2 ⟨⟨h1.1, h1.2.1, ?_, ?_⟩, fun p hq => ?_, fun r hr => ?_, h4⟩
    · show 0 ≤ E.glob + 1
      omega
    · show E.glob + 1 ≤ 1099511627776
      omega
    · show p = -1 ∨ (0 ≤ p ∧ (p = E.glob + 1 ∨ p = E.glob + 1 - 1))
      rcases hp p hq with h5 | h5
      · exact .inl h5
      · exact .inr ⟨by omega, .inr (by omega)⟩
    · show 0 ≤ r.epoch ∧ r.epoch ≤ E.glob + 1 ∧ 0 ≤ r.zone
      have := h3 r hr
      omega
  · exact h
theorem new_valid {n : Nat} (h1 : 1 ≤ n) (h4 : n ≤ 4) : validE ⟨0, List.replicate n (-1), []⟩ = true := by
  refine valid_e.2 ⟨⟨by simpa using h1, by simpa using h4, by simp, by simp⟩, fun p hp => .inl (List.eq_of_mem_replicate hp), fun r hr => (by cases hr), List.Pairwise.nil⟩
/-- what is ready -/
theorem ready_mem {E : Epo} (h : readyB E = true) : ∃ r ∈ E.zones, readyZ E = r.zone ∧ r.epoch ≤ E.glob - 2 := by
  unfold readyB at h
  obtain ⟨r, hr⟩ := Option.isSome_iff_exists.1 h
  have hz : readyZ E = r.zone := by unfold readyZ; rw [hr]; rfl
  unfold readyR at hr
  split at hr
  · have h1 := List.find?_some hr
    exact ⟨r, List.mem_of_find?_eq_some hr, hz, by unfold old at h1; simpa using h1⟩
  · cases hr
/-- a slot that stays pinned, and a zone that was retired then -/
structure Grace (E : Epo) (n : Nat) (G : Int) : Prop where
  v : validE E = true
  l : E.pins.length = n
  p : E.pins[0]? = some G
  z : ∀ r ∈ E.zones, r.zone = 99 → r.epoch = G
  g : 0 ≤ G
section
variable {E : Epo} {n : Nat} {G : Int}
theorem Grace.near (h : Grace E n G) : G = E.glob ∨ G = E.glob - 1 := by
  have h1 := (valid_e.1 h.v).2.1 G (List.mem_of_getElem? h.p)
  have := h.g
  omega
theorem Grace.not (h : Grace E n G) (hr : readyB E = true) : readyZ E ≠ 99 := by
  obtain ⟨r, hm, hz, he⟩ := ready_mem hr
  rw [hz]
  intro h9
  have h1 := h.z r hm h9
  have h2 := h.near
  omega
theorem Grace.set (h : Grace E n G) {s p : Int} (hs : 1 ≤ s) (hv : validE (pinned E s p) = true) : Grace (pinned E s p) n G :=
  ⟨hv, by simpa [pinned] using h.l, by show (E.pins.set s.toNat p)[0]? = _; rw [List.getElem?_set_ne (by omega)]; exact h.p, h.z, h.g⟩
theorem Grace.pin (h : Grace E n G) {s : Int} (hs : 1 ≤ s) : Grace (pinE E s) n G := by
  have hv := valid_pin h.v s
  unfold pinE at hv ⊢
  split at hv
  · rename_i hb; rw [if_pos hb]; exact h.set hs hv
  · rename_i hb; rw [if_neg hb]; exact h
theorem Grace.unpin (h : Grace E n G) {s : Int} (hs : 1 ≤ s) : Grace (unpinE E s) n G := by
  have hv := valid_unpin h.v s
  unfold unpinE at hv ⊢
  split at hv
  · rename_i hb; rw [if_pos hb]; exact h.set hs hv
  · rename_i hb; rw [if_neg hb]; exact h
theorem Grace.adv (h : Grace E n G) : Grace (advE E) n G := by
  have hv := valid_adv h.v
  unfold advE at hv ⊢
  split at hv
  · rename_i hb; rw [if_pos hb]; exact ⟨hv, h.l, h.p, h.z, h.g⟩
  · rename_i hb; rw [if_neg hb]; exact h
theorem Grace.forget (h : Grace E n G) (z : Int) : Grace (forgetE E z) n G := by
  have hv := valid_forget h.v z
  unfold forgetE at hv ⊢
  split at hv
  · rename_i hb; rw [if_pos hb]; exact ⟨hv, h.l, h.p, fun r hr => h.z r (List.mem_filter.1 hr).1, h.g⟩
  · rename_i hb; rw [if_neg hb]; exact h
end
theorem pin_glob (E : Epo) (s : Int) : (pinE E s).glob = E.glob := by unfold pinE; split <;> rfl
theorem unpin_glob (E : Epo) (s : Int) : (unpinE E s).glob = E.glob := by unfold unpinE; split <;> rfl
theorem forget_glob (E : Epo) (z : Int) : (forgetE E z).glob = E.glob := by unfold forgetE; split <;> rfl
theorem retire_glob (E : Epo) (z : Int) : (retireE E z).glob = E.glob := by unfold retireE; split <;> rfl
theorem adv_glob (E : Epo) : (advE E).glob = E.glob + 1 ∨ (advE E).glob = E.glob := by unfold advE; split; exact .inl rfl; exact .inr rfl
/-- epochs after some steps: valid, with few zones -/
structure Few (E : Epo) (n i : Nat) : Prop where
  v : validE E = true
  l : E.pins.length = n
  z : ∀ r ∈ E.zones, r.zone ≤ 5
  k : E.zones.length ≤ i
  g : E.glob ≤ i
theorem few_new {n : Nat} (h1 : 1 ≤ n) (h4 : n ≤ 4) : Few ⟨0, List.replicate n (-1), []⟩ n 0 := ⟨new_valid h1 h4, by simp, fun r hr => (by cases hr), by simp, by simp⟩
/-- slot 0 unpinned, pinned, a zone retired then -/
theorem unpin_zero {E : Epo} (h : validE E = true) : (unpinE E 0).pins[0]? = some (-1) := by
  have hl := (valid_e.1 h).1.1
  unfold unpinE
  split
  · show (E.pins.set (0 : Int).toNat (-1))[0]? = _
    rw [Int.toNat_zero, List.getElem?_set_self (by omega)]
  · rename_i hb
    unfold unpinB at hb
    rw [in_e.2 ⟨h, by omega, by omega⟩, Int.toNat_zero, List.getD_eq_getElem?_getD] at hb
    obtain ⟨p, hp⟩ : ∃ p, E.pins[0]? = some p := ⟨_, List.getElem?_eq_getElem (by omega)⟩
    rw [hp] at hb ⊢
    simp at hb
    rw [hb]
theorem grace_start {E : Epo} {n i : Nat} (h : Few E n i) : pinB (unpinE E 0) 0 = true ∧ retireB (pinE (unpinE E 0) 0) 99 = true ∧ Grace (retireE (pinE (unpinE E 0) 0) 99) n (unpinE E 0).glob := by
  have hv1 := valid_unpin h.v 0
  have hz1 : ∀ r ∈ (unpinE E 0).zones, r.zone ≤ 5 := by
    have : (unpinE E 0).zones = E.zones := by unfold unpinE; split <;> rfl
    rw [this]; exact h.z
  have hl1 : (unpinE E 0).pins.length = n := by
    have : (unpinE E 0).pins.length = E.pins.length := by unfold unpinE; split <;> simp [pinned]
    rw [this]; exact h.l
  have hp1 := unpin_zero h.v
  generalize unpinE E 0 = U at *
  have hU := valid_e.1 hv1
  have hb : pinB U 0 = true := by
    unfold pinB
    rw [in_e.2 ⟨hv1, by omega, by have := hU.1.1; omega⟩, Int.toNat_zero, List.getD_eq_getElem?_getD, hp1]
    rfl
  have hv2 := valid_pin hv1 0
  have hP : pinE U 0 = pinned U 0 U.glob := by unfold pinE; rw [if_pos hb]
  rw [hP] at hv2 ⊢
  have hr : retireB (pinned U 0 U.glob) 99 = true := by
    unfold retireB
    rw [hv2]
    cases hq : isRet (pinned U 0 U.glob).zones 99
    · rfl
    · obtain ⟨r, hm, he⟩ := ret_iff.1 hq
      have := hz1 r hm
      omega
  have hv3 := valid_retire hv2 99
  have hR : retireE (pinned U 0 U.glob) 99 = ⟨U.glob, U.pins.set 0 U.glob, U.zones ++ [⟨99, U.glob⟩]⟩ := by unfold retireE; rw [if_pos hr]; rfl
  refine ⟨hb, hr, ?_⟩
  rw [hR] at hv3 ⊢
  refine ⟨hv3, by simpa using hl1, ?_, fun r hm h9 => ?_, hU.1.2.2.1⟩
  · show (U.pins.set 0 U.glob)[0]? = _
    rw [List.getElem?_set_self (by have := hU.1.1; omega)]
  · rcases List.mem_append.1 hm with h5 | h5
    · have := hz1 r h5
      omega
    · rw [List.mem_singleton.1 h5]
/-- the first zone is ready, and is forgotten -/
theorem ends_next {G : Int} {P : List Int} {r : Ret} {Z : List Ret} (hv : validE ⟨G, P, r :: Z⟩ = true) (ho : r.epoch ≤ G - 2) : readyB ⟨G, P, r :: Z⟩ = true ∧ readyZ ⟨G, P, r :: Z⟩ = r.zone ∧ forgetB ⟨G, P, r :: Z⟩ r.zone = true ∧ forgetE ⟨G, P, r :: Z⟩ r.zone = ⟨G, P, Z⟩ ∧ validE ⟨G, P, Z⟩ = true := by
  have hR : readyR ⟨G, P, r :: Z⟩ = some r := by
    unfold readyR
    rw [if_pos hv]
    exact List.find?_cons_of_pos (by unfold old; simpa using ho)
  have h1 : readyB ⟨G, P, r :: Z⟩ = true := by unfold readyB; rw [hR]; rfl
  have h2 : readyZ ⟨G, P, r :: Z⟩ = r.zone := by unfold readyZ; rw [hR]; rfl
  have h3 : forgetB ⟨G, P, r :: Z⟩ r.zone = true := by unfold forgetB; rw [h1, h2]; simp
  have hV := valid_e.1 hv
  have hF : (r :: Z).filter (other r.zone) = Z := by
    rw [List.filter_cons_of_neg (by unfold other; simp)]
    refine List.filter_eq_self.2 fun x hx => ?_
    have := (List.pairwise_cons.1 hV.2.2.2).1 x hx
    unfold other
    simpa using fun h => this h.symm
  have h4 : forgetE ⟨G, P, r :: Z⟩ r.zone = ⟨G, P, Z⟩ := by unfold forgetE; rw [if_pos h3]; show (⟨G, P, (r :: Z).filter (other r.zone)⟩ : Epo) = _; rw [hF]
  refine ⟨h1, h2, h3, h4, ?_⟩
  have := valid_forget hv r.zone
  rw [h4] at this
  exact this
theorem ends_none {G : Int} {P : List Int} : readyB ⟨G, P, []⟩ = false ∧ readyZ ⟨G, P, []⟩ = 0 := by
  have hR : readyR ⟨G, P, []⟩ = none := by unfold readyR; split <;> rfl
  exact ⟨by unfold readyB; rw [hR]; rfl, by unfold readyZ; rw [hR]; rfl⟩
end Go.Proofs.Ytbfoagfemgogkaa.EpoMath
