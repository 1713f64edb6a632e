/- Texts that belong together, part 2. -/
import Derived.Test.YtjdlekjikemdpaaPack1

/- Counters of zones, and what layer 10 of the document says of them. Plain mathematics. -/
namespace Go.Proofs.Ytjdlekjikemdpaa.CntMath
open EntMath
structure Cnt where
  live : List Int
  pend : List Int
deriving DecidableEq
def okN (z : Int) : Bool := decide (0 ≤ z) && decide (z ≤ 1099511627776)
def validC (C : Cnt) : Bool := decide (C.live.length = C.pend.length) && decide (1 ≤ C.live.length) && decide (C.live.length ≤ 32) && C.live.all okN && C.pend.all okN
def hasC (C : Cnt) (z : Int) : Bool := validC C && decide (0 ≤ z) && decide (z < (C.live.length : Int))
def plusL (l : List Int) (i : Nat) (n : Int) : List Int := l.set i (l.getD i 0 + n)
def beginB (C : Cnt) (z : Int) : Bool := hasC C z && decide (C.pend.getD z.toNat 0 ≠ 1099511627776)
def beginC (C : Cnt) (z : Int) : Cnt := if beginB C z = true then ⟨C.live, plusL C.pend z.toNat 1⟩ else C
def endB (C : Cnt) (z : Int) : Bool := hasC C z && decide (C.pend.getD z.toNat 0 ≠ 0)
def endC (C : Cnt) (z : Int) : Cnt := if endB C z = true then ⟨C.live, plusL C.pend z.toNat (-1)⟩ else C
def clearB (C : Cnt) (z : Int) : Bool := hasC C z && decide (C.live.getD z.toNat 0 = 0) && decide (C.pend.getD z.toNat 0 = 0)
/-- the counters that a change would lead to -/
def less (C : Cnt) (o : Int) (had : Bool) : List Int := if had = true then plusL C.live o.toNat (-1) else C.live
def more (l : List Int) (f : Int) (is : Bool) : List Int := if is = true then plusL l f.toNat 1 else l
def changedC (C : Cnt) (o f : Int) (had is : Bool) : Cnt := ⟨more (less C o had) f is, C.pend⟩
/-- may it be changed so -/
def asksC (C : Cnt) (o f : Int) (had is : Bool) : Bool := validC C && (!had || hasC C o) && (!is || hasC C f)
def changeB (C : Cnt) (o f : Int) (had is : Bool) : Bool := asksC C o f had is && validC (changedC C o f had is)
def changeC (C : Cnt) (o f : Int) (had is : Bool) : Cnt := if changeB C o f had is = true then changedC C o f had is else C
def newC (z : Int) : Cnt := if 1 ≤ z ∧ z ≤ 32 then ⟨List.replicate z.toNat 0, List.replicate z.toNat 0⟩ else ⟨[], []⟩
def newCE (z : Int) : Int := if 1 ≤ z ∧ z ≤ 32 then 0 else 1
/-- the counters of entries -/
def countL (l : List Int) (L : List Ent) : List Int := L.foldl (fun l e => plusL l e.zone.toNat 1) l
def inZ (z : Int) (L : List Ent) : Bool := L.all fun e => decide (0 ≤ e.zone) && decide (e.zone < z)
def ofB (z : Int) (L : List Ent) : Bool := decide (1 ≤ z) && decide (z ≤ 32) && inZ z L
def ofC (z : Int) (L : List Ent) : Cnt := if ofB z L = true then ⟨countL (List.replicate z.toNat 0) L, List.replicate z.toNat 0⟩ else ⟨[], []⟩
theorem plus_len (l : List Int) (i : Nat) (n : Int) : (plusL l i n).length = l.length := by simp [plusL]
theorem ok_n {z : Int} : okN z = true ↔ 0 ≤ z ∧ z ≤ 1099511627776 := by simp [okN]
theorem valid_c {C : Cnt} : validC C = true ↔ (C.live.length = C.pend.length ∧ 1 ≤ C.live.length ∧ C.live.length ≤ 32) ∧ (∀ z ∈ C.live, 0 ≤ z ∧ z ≤ 1099511627776) ∧ ∀ z ∈ C.pend, 0 ≤ z ∧ z ≤ 1099511627776 := by
  unfold validC
  simp only [Bool.and_eq_true, decide_eq_true_eq, List.all_eq_true, ok_n]
  constructor
  · rintro ⟨⟨⟨⟨h1, h2⟩, h3⟩, h4⟩, h5⟩
    exact ⟨⟨h1, h2, h3⟩, h4, h5⟩
  · rintro ⟨⟨h1, h2, h3⟩, h4, h5⟩
    exact ⟨⟨⟨⟨h1, h2⟩, h3⟩, h4⟩, h5⟩
theorem has_c {C : Cnt} {z : Int} : hasC C z = true ↔ validC C = true ∧ 0 ≤ z ∧ z < (C.live.length : Int) := by
  unfold hasC
  simp only [Bool.and_eq_true, decide_eq_true_eq, and_assoc]
theorem getD_ok {l : List Int} (h : ∀ z ∈ l, 0 ≤ z ∧ z ≤ 1099511627776) (i : Nat) : 0 ≤ l.getD i 0 ∧ l.getD i 0 ≤ 1099511627776 := by
  rw [List.getD_eq_getElem?_getD]
  cases h1 : l[i]? with
  | none => simp
  | some z => exact h z (List.mem_of_getElem? h1)
theorem getD_at {l : List Int} {i : Nat} {z : Int} (h : l[i]? = some z) : l.getD i 0 = z := by rw [List.getD_eq_getElem?_getD, h]; rfl
theorem count_len (l : List Int) (L : List Ent) : (countL l L).length = l.length := by
  unfold countL
  induction L generalizing l with
  | nil => rfl
  | cons e L ih => rw [List.foldl_cons, ih, plus_len]
theorem count_next {l : List Int} {L : List Ent} {i : Nat} {e : Ent} (h : L[i]? = some e) : countL l (L.take (i + 1)) = plusL (countL l (L.take i)) e.zone.toNat 1 := by
  unfold countL
  rw [List.take_add_one, h, List.foldl_append]
  rfl
theorem plus_bound {l : List Int} {k : Int} (h : ∀ z ∈ l, 0 ≤ z ∧ z ≤ k) (hk : 0 ≤ k) (i : Nat) : ∀ z ∈ plusL l i 1, 0 ≤ z ∧ z ≤ k + 1 := by
  intro z hz
  unfold plusL at hz
  rcases List.mem_or_eq_of_mem_set hz with hz | rfl
  · have := h z hz
    omega
  · rw [List.getD_eq_getElem?_getD]
    cases h1 : l[i]? with
    | none => simp; omega
    | some y =>
      have := h y (List.mem_of_getElem? h1)
      simp only [Option.getD_some]
      omega
theorem count_bound (n : Nat) (L : List Ent) (i : Nat) (hi : i ≤ L.length) : ∀ z ∈ countL (List.replicate n 0) (L.take i), 0 ≤ z ∧ z ≤ (i : Int) := by
  induction i with
  | zero =>
    intro z hz
    rw [List.take_zero] at hz
    have := List.eq_of_mem_replicate hz
    omega
  | succ i ih =>
    have he : L[i]? = some (L[i]'(by omega)) := List.getElem?_eq_getElem _
    rw [count_next he]
    intro z hz
    have := plus_bound (ih (by omega)) (by omega) _ z hz
    omega
theorem count_valid {n : Nat} (h1 : 1 ≤ n) (h32 : n ≤ 32) (L : List Ent) (hL : L.length ≤ 1000000) (i : Nat) (hi : i ≤ L.length) : validC ⟨countL (List.replicate n 0) (L.take i), List.replicate n 0⟩ = true := by
  refine valid_c.2 ⟨⟨by simp [count_len], by simpa [count_len] using h1, by simpa [count_len] using h32⟩, fun z hz => ?_, fun z hz => ?_⟩
  · have := count_bound n L i hi z hz
    omega
  · have := List.eq_of_mem_replicate hz
    omega
end Go.Proofs.Ytjdlekjikemdpaa.CntMath

/- Locks of stripes, and what layer 11 of the document says of them. Plain mathematics. -/
namespace Go.Proofs.Ytjdlekjikemdpaa.LckMath
def validK (O : List Int) : Bool := (O.all fun z => decide (-1 ≤ z)) && decide (1 ≤ O.length) && decide (O.length ≤ 8)
def inK (O : List Int) (s : Int) : Bool := validK O && decide (0 ≤ s) && decide (s < (O.length : Int))
def freeK (O : List Int) (s : Int) : Bool := inK O s && decide (O.getD s.toNat 0 = -1)
def takeB (O : List Int) (s t : Int) : Bool := freeK O s && decide (0 ≤ t)
def takeL (O : List Int) (s t : Int) : List Int := if takeB O s t = true then O.set s.toNat t else O
def giveB (O : List Int) (s t : Int) : Bool := inK O s && decide (0 ≤ t) && decide (O.getD s.toNat 0 = t)
def giveL (O : List Int) (s t : Int) : List Int := if giveB O s t = true then O.set s.toNat (-1) else O
/-- the stripes below k that a thread holds -/
def heldTo (O : List Int) (t : Int) (k : Nat) : List Int := ((List.range k).filter fun i : Nat => decide (O.getD i 0 = t)).map (fun i : Nat => (i : Int))
def heldL (O : List Int) (t : Int) : List Int := if 0 ≤ t then heldTo O t O.length else []
def newK (s : Int) : List Int := if 1 ≤ s ∧ s ≤ 8 then List.replicate s.toNat (-1) else []
def newKE (s : Int) : Int := if 1 ≤ s ∧ s ≤ 8 then 0 else 1
theorem valid_k {O : List Int} : validK O = true ↔ (∀ z ∈ O, -1 ≤ z) ∧ 1 ≤ O.length ∧ O.length ≤ 8 := by
  unfold validK
  simp only [Bool.and_eq_true, decide_eq_true_eq, List.all_eq_true, and_assoc]
theorem k_bad {O : List Int} {j : Nat} {z : Int} (hz : O[j]? = some z) (h : ¬ -1 ≤ z) : validK O = false := by
  cases hv : validK O
  · rfl
  · exact absurd ((valid_k.1 hv).1 z (List.mem_of_getElem? hz)) h
theorem k_all {O : List Int} (h : ∀ j : Nat, j < O.length → ∀ z, O[j]? = some z → -1 ≤ z) : validK O = (decide (1 ≤ O.length) && decide (O.length ≤ 8)) := by
  have h1 : (O.all fun z => decide (-1 ≤ z)) = true := List.all_eq_true.2 fun z hz => by
    obtain ⟨j, hj⟩ := List.mem_iff_getElem?.1 hz
    exact decide_eq_true (h j (List.getElem?_eq_some_iff.1 hj).1 z hj)
  unfold validK
  rw [h1, Bool.true_and]
theorem held_next {O : List Int} {t z : Int} {i : Nat} (h : O[i]? = some z) : heldTo O t (i + 1) = heldTo O t i ++ if z = t then [(i : Int)] else [] := by
  unfold heldTo
  rw [List.range_succ, List.filter_append, List.map_append]
  congr 1
  rw [List.filter_cons, CntMath.getD_at h]
  by_cases hz : z = t <;> simp [hz]
theorem held_len (O : List Int) (t : Int) (k : Nat) : (heldTo O t k).length ≤ k := by
  unfold heldTo
  rw [List.length_map]
  exact Nat.le_trans (List.length_filter_le _ _) (by simp)
theorem in_k {O : List Int} {s : Int} : inK O s = true ↔ validK O = true ∧ 0 ≤ s ∧ s < (O.length : Int) := by
  unfold inK
  simp only [Bool.and_eq_true, decide_eq_true_eq, and_assoc]
end Go.Proofs.Ytjdlekjikemdpaa.LckMath

/- Epochs, and what layer 12 of the document says of them. Plain mathematics. -/
namespace Go.Proofs.Ytjdlekjikemdpaa.EpoMath
structure Ret where
  zone : Int
  epoch : Int
deriving DecidableEq
structure Epo where
  glob : Int
  pins : List Int
  zones : List Ret
deriving DecidableEq
def isRet (Z : List Ret) (z : Int) : Bool := Z.any fun r => decide (r.zone = z)
def okPin (G p : Int) : Bool := decide (p = -1) || (decide (0 ≤ p) && (decide (p = G) || decide (p = G - 1)))
def okRet (G : Int) (Z : List Ret) (i : Nat) : Bool := match Z[i]? with
  | some r => decide (0 ≤ r.epoch) && decide (r.epoch ≤ G) && decide (0 ≤ r.zone) && !isRet (Z.take i) r.zone
  | none => true
def okHead (E : Epo) : Bool := decide (1 ≤ E.pins.length) && decide (E.pins.length ≤ 4) && decide (0 ≤ E.glob) && decide (E.glob ≤ 1099511627776)
def okRets (G : Int) (Z : List Ret) : Bool := (List.range Z.length).all (okRet G Z)
def validE (E : Epo) : Bool := okHead E && E.pins.all (okPin E.glob) && okRets E.glob E.zones
def newE (s : Int) : Epo := if 1 ≤ s ∧ s ≤ 4 then ⟨0, List.replicate s.toNat (-1), []⟩ else ⟨0, [], []⟩
def newEE (s : Int) : Int := if 1 ≤ s ∧ s ≤ 4 then 0 else 1
def inE (E : Epo) (s : Int) : Bool := validE E && decide (0 ≤ s) && decide (s < (E.pins.length : Int))
def pinned (E : Epo) (s p : Int) : Epo := ⟨E.glob, E.pins.set s.toNat p, E.zones⟩
def pinB (E : Epo) (s : Int) : Bool := inE E s && decide (E.pins.getD s.toNat 0 = -1)
def pinE (E : Epo) (s : Int) : Epo := if pinB E s = true then pinned E s E.glob else E
def unpinB (E : Epo) (s : Int) : Bool := inE E s && !decide (E.pins.getD s.toNat 0 = -1)
def unpinE (E : Epo) (s : Int) : Epo := if unpinB E s = true then pinned E s (-1) else E
def retireB (E : Epo) (z : Int) : Bool := validE E && decide (0 ≤ z) && !isRet E.zones z
def retireE (E : Epo) (z : Int) : Epo := if retireB E z = true then ⟨E.glob, E.pins, E.zones ++ [⟨z, E.glob⟩]⟩ else E
def old (G : Int) (r : Ret) : Bool := decide (r.epoch ≤ G - 2)
def readyR (E : Epo) : Option Ret := if validE E = true then E.zones.find? (old E.glob) else none
def readyB (E : Epo) : Bool := (readyR E).isSome
def zOf : Option Ret → Int
  | some r => r.zone
  | none => 0
def readyZ (E : Epo) : Int := zOf (readyR E)
def forgetB (E : Epo) (z : Int) : Bool := readyB E && decide (readyZ E = z)
def other (z : Int) (r : Ret) : Bool := !decide (r.zone = z)
def forgetE (E : Epo) (z : Int) : Epo := if forgetB E z = true then ⟨E.glob, E.pins, E.zones.filter (other z)⟩ else E
def atG (G p : Int) : Bool := decide (p = -1) || decide (p = G)
def advB (E : Epo) : Bool := validE E && !decide (E.glob = 1099511627776) && E.pins.all (atG E.glob)
def advE (E : Epo) : Epo := if advB E = true then ⟨E.glob + 1, E.pins, E.zones⟩ else E
theorem ret_take {Z : List Ret} {z : Int} {j : Nat} {r : Ret} (h : Z[j]? = some r) : isRet (Z.take (j + 1)) z = (isRet (Z.take j) z || decide (r.zone = z)) := by
  unfold isRet
  rw [List.take_add_one, h, List.any_append]
  simp
theorem ret_here {Z : List Ret} {z : Int} {j u : Nat} {r : Ret} (h : Z[j]? = some r) (hj : j < u) (hz : r.zone = z) : isRet (Z.take u) z = true := by
  unfold isRet
  rw [List.any_eq_true]
  refine ⟨r, ?_, by simpa using hz⟩
  exact List.mem_of_getElem? (i := j) (by rw [List.getElem?_take, if_pos hj]; exact h)
theorem okRets_bad {G : Int} {Z : List Ret} {i : Nat} (hi : i < Z.length) (h : okRet G Z i = false) : okRets G Z = false := by
  cases ho : okRets G Z
  · rfl
  · have := List.all_eq_true.1 ho i (List.mem_range.2 hi)
    rw [h] at this
    cases this
theorem okRets_all {G : Int} {Z : List Ret} (h : ∀ i : Nat, i < Z.length → okRet G Z i = true) : okRets G Z = true :=
  List.all_eq_true.2 fun i hi => h i (List.mem_range.1 hi)
theorem okRet_at {G : Int} {Z : List Ret} {i : Nat} {r : Ret} (h : Z[i]? = some r) : okRet G Z i = (decide (0 ≤ r.epoch) && decide (r.epoch ≤ G) && decide (0 ≤ r.zone) && !isRet (Z.take i) r.zone) := by
  unfold okRet
  rw [h]
theorem all_bad {α : Type} {p : α → Bool} {L : List α} {j : Nat} {e : α} (he : L[j]? = some e) (h : p e = false) : L.all p = false := by
  cases ho : L.all p
  · rfl
  · rw [List.all_eq_true.1 ho e (List.mem_of_getElem? he)] at h; cases h
theorem all_good {α : Type} {p : α → Bool} {L : List α} (h : ∀ (j : Nat) (e : α), L[j]? = some e → p e = true) : L.all p = true :=
  List.all_eq_true.2 fun e he => by obtain ⟨j, hj⟩ := List.mem_iff_getElem?.1 he; exact h j e hj
theorem find_at {α : Type} {p : α → Bool} {L : List α} {j : Nat} {e : α} (he : L[j]? = some e) (hp : p e = true) (hb : ∀ (i : Nat) (x : α), i < j → L[i]? = some x → p x = false) : L.find? p = some e := by
  induction L generalizing j with
  | nil => cases he
  | cons x L ih =>
    cases j with
    | zero =>
      obtain rfl := Option.some.inj he
      exact List.find?_cons_of_pos hp
    | succ j =>
      rw [List.find?_cons_of_neg (by rw [hb 0 x (by omega) rfl]; decide)]
      exact ih he fun i y hi hy => hb (i + 1) y (by omega) hy
theorem find_none {α : Type} {p : α → Bool} {L : List α} (hb : ∀ (i : Nat) (x : α), L[i]? = some x → p x = false) : L.find? p = none := by
  rw [List.find?_eq_none]
  intro x hx
  obtain ⟨i, hi⟩ := List.mem_iff_getElem?.1 hx
  rw [hb i x hi]
  decide
theorem filter_step {α : Type} {L : List α} {j : Nat} {e : α} (h : L[j]? = some e) (p : α → Bool) : (L.take (j + 1)).filter p = (L.take j).filter p ++ (if p e = true then [e] else []) := by
  rw [List.take_add_one, h, Option.toList_some, List.filter_append]
  congr 1
  simp only [List.filter_cons, List.filter_nil]
theorem head_e {E : Epo} (h : validE E = true) : 1 ≤ E.pins.length ∧ E.pins.length ≤ 4 ∧ 0 ≤ E.glob ∧ E.glob ≤ 1099511627776 := by
  unfold validE okHead at h
  simp only [Bool.and_eq_true, decide_eq_true_eq] at h
  omega
theorem in_e {E : Epo} {s : Int} : inE E s = true ↔ validE E = true ∧ 0 ≤ s ∧ s < (E.pins.length : Int) := by
  unfold inE
  simp only [Bool.and_eq_true, decide_eq_true_eq, and_assoc]
end Go.Proofs.Ytjdlekjikemdpaa.EpoMath
