/- Texts that belong together, part 2. -/
import Derived.Test.YtpkogdpgchibdaaPack1

/- What installs, relocations and drops do to the entry of a block. Plain mathematics. -/
namespace Go.Proofs.Ytpkogdpgchibdaa.EntMath
theorem newer_iff {L : List Ent} {e : Ent} (h : validB L = true) (he : okE e = true) : newer L e = true ↔ ∀ x, lookE L e.block = some x → x.version < e.version := by
  unfold newer
  rw [h, he]
  cases hx : lookE L e.block with
  | none => simp
  | some x => simp
theorem install_eq {L : List Ent} {e : Ent} (h : validB L = true) : installL L e = if newer L e = true then ins L e else L := by unfold installL; rw [if_pos h]
theorem newer_ok {L : List Ent} {e : Ent} (h : newer L e = true) : okE e = true := by
  unfold newer at h
  simp only [Bool.and_eq_true] at h
  exact h.1.2
theorem valid_install {L : List Ent} {e : Ent} (h : validB L = true) : validB (installL L e) = true := by
  rw [install_eq h]
  split
  · exact valid_ins h (newer_ok (by assumption))
  · exact h
/-- the entry of a block behind an install -/
def best (o : Option Ent) (e : Ent) : Option Ent := match o with | none => some e | some x => if x.version < e.version then some e else some x
theorem look_install {L : List Ent} {e : Ent} (h : validB L = true) (he : okE e = true) (c : Int) : lookE (installL L e) c = if e.block = c then best (lookE L c) e else lookE L c := by
  rw [install_eq h]
  by_cases hn : newer L e = true
  · rw [if_pos hn, look_ins]
    have hv := (newer_iff h he).1 hn
    by_cases hc : e.block = c
    · subst hc
      rw [if_pos rfl, if_pos rfl]
      unfold best
      cases hx : lookE L e.block with
      | none => rfl
      | some x => exact (if_pos (hv x hx)).symm
    · rw [if_neg hc, if_neg hc]
  · rw [if_neg hn]
    by_cases hc : e.block = c
    · subst hc
      rw [if_pos rfl]
      unfold best
      cases hx : lookE L e.block with
      | none => exact absurd ((newer_iff h he).2 (fun x hx' => by rw [hx] at hx'; cases hx')) hn
      | some x =>
        have hlt : ¬ x.version < e.version := fun hlt => hn ((newer_iff h he).2 (fun y hy => by rw [hx] at hy; obtain rfl := Option.some.inj hy; exact hlt))
        exact (if_neg hlt).symm
    · rw [if_neg hc]
theorem ins_length (L : List Ent) (e : Ent) : (ins L e).length ≤ L.length + 1 := by
  induction L with
  | nil => simp [ins]
  | cons x L ih =>
    rw [ins]
    split
    · simp only [List.length_cons]; omega
    · split <;> simp only [List.length_cons] <;> omega
theorem install_length (L : List Ent) (e : Ent) : (installL L e).length ≤ L.length + 1 := by
  unfold installL
  split
  · split
    · exact ins_length L e
    · omega
  · simp
theorem valid_ext {L M : List Ent} (hL : validB L = true) (hM : validB M = true) (h : ∀ b, lookE L b = lookE M b) : L = M := asc_ext (valid_iff.1 hL).2 (valid_iff.1 hM).2 h
theorem best_comm {o : Option Ent} {a b : Ent} (h : a.version ≠ b.version) : best (best o a) b = best (best o b) a := by
  cases o with
  | none =>
    simp only [best]
    by_cases h1 : a.version < b.version
    · rw [if_pos h1, if_neg (by omega)]
    · rw [if_neg h1, if_pos (by omega)]
  | some x =>
    have e1 : best (some x) a = if x.version < a.version then some a else some x := rfl
    have e2 : best (some x) b = if x.version < b.version then some b else some x := rfl
    rw [e1, e2]
    by_cases h1 : x.version < a.version <;> by_cases h2 : x.version < b.version
    · rw [if_pos h1, if_pos h2]
      show (if a.version < b.version then some b else some a) = (if b.version < a.version then some a else some b)
      by_cases h3 : a.version < b.version
      · rw [if_pos h3, if_neg (by omega)]
      · rw [if_neg h3, if_pos (by omega)]
    · rw [if_pos h1, if_neg h2]
      show (if a.version < b.version then some b else some a) = (if x.version < a.version then some a else some x)
      rw [if_neg (by omega), if_pos h1]
    · rw [if_neg h1, if_pos h2]
      show (if x.version < b.version then some b else some x) = (if b.version < a.version then some a else some b)
      rw [if_pos h2, if_neg (by omega)]
    · rw [if_neg h1, if_neg h2]
      show (if x.version < b.version then some b else some x) = (if x.version < a.version then some a else some x)
      rw [if_neg h2, if_neg h1]
/-- two installs in either order -/
theorem install_comm {L : List Ent} {a b : Ent} (h : validB L = true) (ha : okE a = true) (hb : okE b = true) (hab : ¬ (a.block = b.block ∧ a.version = b.version)) : installL (installL L a) b = installL (installL L b) a := by
  refine valid_ext (valid_install (valid_install h)) (valid_install (valid_install h)) fun c => ?_
  rw [look_install (valid_install h) hb, look_install h ha, look_install (valid_install h) ha, look_install h hb]
  by_cases h1 : a.block = c <;> by_cases h2 : b.block = c <;> simp only [h1, h2, if_true, if_false]
  exact best_comm fun hv => hab ⟨by omega, hv⟩
theorem install_some {L : List Ent} {a : Ent} (h : validB L = true) (ha : okE a = true) : ∃ x, lookE (installL L a) a.block = some x := by
  rw [look_install h ha, if_pos rfl]
  unfold best
  cases lookE L a.block with
  | none => exact ⟨_, rfl⟩
  | some x =>
    simp only
    split
    · exact ⟨_, rfl⟩
    · exact ⟨_, rfl⟩
theorem look_nonempty {L : List Ent} {b : Int} {x : Ent} (h : lookE L b = some x) : L ≠ [] := by
  rintro rfl
  cases h
theorem install_nonempty {L : List Ent} {a b : Ent} (h : validB L = true) (hb : okE b = true) : installL (installL L a) b ≠ [] := by
  obtain ⟨x, hx⟩ := install_some (valid_install (e := a) h) hb
  exact look_nonempty hx
/-! relocating -/
theorem find_look {L : List Ent} (h : validB L = true) (b : Int) : findE L b = lookE L b := by unfold findE; rw [if_pos h]
theorem moves_iff {L : List Ent} {b v fz fo tz tu m : Int} {x : Ent} (h : validB L = true) (hx : lookE L b = some x) : moves L b v fz fo tz tu m = true ↔ x.version = v ∧ x.zone = fz ∧ x.offset = fo ∧ 0 ≤ tz ∧ 0 ≤ tu ∧ 0 ≤ m ∧ m ≤ 255 := by
  unfold moves
  rw [find_look h, hx]
  simp [Bool.and_eq_true, and_assoc]
theorem reloc_moved {L : List Ent} {b v fz fo tz tu m : Int} {x : Ent} (h : validB L = true) (hx : lookE L b = some x) (hm : moves L b v fz fo tz tu m = true) : relocL L b v fz fo tz tu m = ins L (moved x tz tu m) := by
  unfold relocL
  rw [if_pos h, if_pos hm, hx]
theorem reloc_same {L : List Ent} {b v fz fo tz tu m : Int} (h : validB L = true) (hm : moves L b v fz fo tz tu m = false) : relocL L b v fz fo tz tu m = L := by
  unfold relocL
  rw [if_pos h, if_neg (by rw [hm]; decide)]
theorem ok_moved {x : Ent} {tz tu m : Int} (h : okE x = true) (h1 : 0 ≤ tz) (h2 : 0 ≤ tu) (h3 : 0 ≤ m) (h4 : m ≤ 255) : okE (moved x tz tu m) = true := by
  unfold okE moved at *
  simp only [Bool.and_eq_true, Bool.or_eq_true, decide_eq_true_eq] at *
  omega
theorem valid_reloc {L : List Ent} {b v fz fo tz tu m : Int} (h : validB L = true) : validB (relocL L b v fz fo tz tu m) = true := by
  cases hm : moves L b v fz fo tz tu m
  · rw [reloc_same h hm]; exact h
  · cases hx : lookE L b with
    | none =>
      unfold moves at hm
      rw [find_look h, hx] at hm
      cases hm
    | some x =>
      rw [reloc_moved h hx hm]
      have h2 := (moves_iff h hx).1 hm
      exact valid_ins h (ok_moved ((valid_iff.1 h).1 x (look_mem hx)) h2.2.2.2.1 h2.2.2.2.2.1 h2.2.2.2.2.2.1 h2.2.2.2.2.2.2)
theorem look_reloc {L : List Ent} {b v fz fo tz tu m : Int} {x : Ent} (h : validB L = true) (hx : lookE L b = some x) (hm : moves L b v fz fo tz tu m = true) (c : Int) : lookE (relocL L b v fz fo tz tu m) c = if b = c then some (moved x tz tu m) else lookE L c := by
  rw [reloc_moved h hx hm, look_ins]
  have : (moved x tz tu m).block = b := show x.block = b from look_block hx
  rw [this]
theorem reloc_length (L : List Ent) (b v fz fo tz tu m : Int) : (relocL L b v fz fo tz tu m).length ≤ L.length + 1 := by
  unfold relocL
  split
  · split
    · split
      · omega
      · exact ins_length _ _
    · omega
  · simp
/-- a relocation and an install of different blocks in either order -/
theorem reloc_install {L : List Ent} {b v fz fo tz tu m : Int} {x e : Ent} (h : validB L = true) (he : okE e = true) (hx : lookE L b = some x) (hb : b ≠ e.block) (hm : moves L b v fz fo tz tu m = true) :
    moves (installL L e) b v fz fo tz tu m = true ∧ installL (relocL L b v fz fo tz tu m) e = relocL (installL L e) b v fz fo tz tu m := by
  have hx2 : lookE (installL L e) b = some x := by rw [look_install h he, if_neg (fun h => hb h.symm)]; exact hx
  have hm2 : moves (installL L e) b v fz fo tz tu m = true := (moves_iff (valid_install h) hx2).2 ((moves_iff h hx).1 hm)
  refine ⟨hm2, valid_ext (valid_install (valid_reloc h)) (valid_reloc (valid_install h)) fun c => ?_⟩
  rw [look_install (valid_reloc h) he, look_reloc h hx hm, look_reloc (valid_install h) hx2 hm2, look_install h he]
  by_cases h1 : b = c
  · rw [if_neg (by omega), if_pos h1, if_pos h1]
  · rw [if_neg h1, if_neg h1]
/-! dropping -/
theorem stay_eq {L : List Ent} {c : Int} (h : validB L = true) : stayL L c = L.filter (fun e => !gone c e) := by unfold stayL; rw [if_pos h]
theorem gone_eq {L : List Ent} {c : Int} (h : validB L = true) : goneL L c = L.filter (gone c) := by unfold goneL; rw [if_pos h]
theorem valid_stay {L : List Ent} {c : Int} (h : validB L = true) : validB (stayL L c) = true := by rw [stay_eq h]; exact valid_filter _ h
theorem stay_gone {L : List Ent} {c : Int} (h : validB L = true) : (stayL L c).length + (goneL L c).length = L.length := by
  rw [stay_eq h, gone_eq h]
  induction L with
  | nil => rfl
  | cons x L ih =>
    have ih2 : (L.filter (fun e => !gone c e)).length + (L.filter (gone c)).length = L.length := by
      have hs : validB L = true := by
        obtain ⟨h1, h2⟩ := valid_iff.1 h
        exact valid_iff.2 ⟨fun e he => h1 e (List.mem_cons_of_mem _ he), (List.pairwise_cons.1 h2).2⟩
      exact ih hs
    rw [List.filter_cons, List.filter_cons]
    cases gone c x <;> simp only [Bool.not_false, Bool.not_true, if_true, List.length_cons] <;> simp <;> omega
theorem stay_again {L : List Ent} {c : Int} (h : validB L = true) : stayL (stayL L c) c = stayL L c ∧ goneL (stayL L c) c = [] := by
  rw [stay_eq (valid_stay h), gone_eq (valid_stay h), stay_eq h]
  constructor
  · rw [List.filter_filter]
    congr 1
    funext e
    cases gone c e <;> rfl
  · rw [List.filter_filter, List.filter_eq_nil_iff]
    intro e _
    cases gone c e <;> decide
theorem stay_two {L : List Ent} {p q : Int} (h : validB L = true) : stayL (stayL L p) q = stayL L (max p q) := by
  rw [stay_eq (valid_stay h), stay_eq h, stay_eq h, List.filter_filter]
  congr 1
  funext e
  unfold gone
  by_cases hk : e.kind = 2
  · simp only [hk, decide_true, Bool.true_and]
    by_cases h1 : e.version < p <;> by_cases h2 : e.version < q
    · simp [h1, h2, show e.version < max p q by omega]
    · simp [h1, h2, show e.version < max p q by omega]
    · simp [h1, h2, show e.version < max p q by omega]
    · simp [h1, h2, show ¬ e.version < max p q by omega]
  · simp [hk]
theorem find_stay {L : List Ent} {c : Int} (h : validB L = true) {x : Ent} (hx : x ∈ L) : (findE (stayL L c) x.block).isSome = !gone c x := by
  rw [find_look (valid_stay h), stay_eq h, look_filter _ (valid_iff.1 h).2, look_asc (valid_iff.1 h).2 hx]
  cases hg : gone c x <;> simp [Option.filter, hg]
end Go.Proofs.Ytpkogdpgchibdaa.EntMath

/- Counters of zones, and what layer 10 of the document says of them. Plain mathematics. -/
namespace Go.Proofs.Ytpkogdpgchibdaa.CntMath
open EntMath
structure Cnt where
  live : List Int
  pend : List Int
deriving DecidableEq
def okN (z : Int) : Bool := decide (0 ≤ z) && decide (z ≤ 1099511627776)
def validC (C : Cnt) : Bool := decide (C.live.length = C.pend.length) && decide (1 ≤ C.live.length) && decide (C.live.length ≤ 32) && C.live.all okN && C.pend.all okN
def hasC (C : Cnt) (z : Int) : Bool := validC C && decide (0 ≤ z) && decide (z < (C.live.length : Int))
def plusL (l : List Int) (i : Nat) (n : Int) : List Int := l.set i (l.getD i 0 + n)
def beginB (C : Cnt) (z : Int) : Bool := hasC C z && decide (C.pend.getD z.toNat 0 ≠ 1099511627776)
def beginC (C : Cnt) (z : Int) : Cnt := if beginB C z = true then ⟨C.live, plusL C.pend z.toNat 1⟩ else C
def endB (C : Cnt) (z : Int) : Bool := hasC C z && decide (C.pend.getD z.toNat 0 ≠ 0)
def endC (C : Cnt) (z : Int) : Cnt := if endB C z = true then ⟨C.live, plusL C.pend z.toNat (-1)⟩ else C
def clearB (C : Cnt) (z : Int) : Bool := hasC C z && decide (C.live.getD z.toNat 0 = 0) && decide (C.pend.getD z.toNat 0 = 0)
/-- the counters that a change would lead to -/
def less (C : Cnt) (o : Int) (had : Bool) : List Int := if had = true then plusL C.live o.toNat (-1) else C.live
def more (l : List Int) (f : Int) (is : Bool) : List Int := if is = true then plusL l f.toNat 1 else l
def changedC (C : Cnt) (o f : Int) (had is : Bool) : Cnt := ⟨more (less C o had) f is, C.pend⟩
/-- may it be changed so -/
def asksC (C : Cnt) (o f : Int) (had is : Bool) : Bool := validC C && (!had || hasC C o) && (!is || hasC C f)
def changeB (C : Cnt) (o f : Int) (had is : Bool) : Bool := asksC C o f had is && validC (changedC C o f had is)
def changeC (C : Cnt) (o f : Int) (had is : Bool) : Cnt := if changeB C o f had is = true then changedC C o f had is else C
def newC (z : Int) : Cnt := if 1 ≤ z ∧ z ≤ 32 then ⟨List.replicate z.toNat 0, List.replicate z.toNat 0⟩ else ⟨[], []⟩
def newCE (z : Int) : Int := if 1 ≤ z ∧ z ≤ 32 then 0 else 1
/-- the counters of entries -/
def countL (l : List Int) (L : List Ent) : List Int := L.foldl (fun l e => plusL l e.zone.toNat 1) l
def inZ (z : Int) (L : List Ent) : Bool := L.all fun e => decide (0 ≤ e.zone) && decide (e.zone < z)
def ofB (z : Int) (L : List Ent) : Bool := decide (1 ≤ z) && decide (z ≤ 32) && inZ z L
def ofC (z : Int) (L : List Ent) : Cnt := if ofB z L = true then ⟨countL (List.replicate z.toNat 0) L, List.replicate z.toNat 0⟩ else ⟨[], []⟩
theorem plus_len (l : List Int) (i : Nat) (n : Int) : (plusL l i n).length = l.length := by simp [plusL]
theorem ok_n {z : Int} : okN z = true ↔ 0 ≤ z ∧ z ≤ 1099511627776 := by simp [okN]
theorem valid_c {C : Cnt} : validC C = true ↔ (C.live.length = C.pend.length ∧ 1 ≤ C.live.length ∧ C.live.length ≤ 32) ∧ (∀ z ∈ C.live, 0 ≤ z ∧ z ≤ 1099511627776) ∧ ∀ z ∈ C.pend, 0 ≤ z ∧ z ≤ 1099511627776 := by
  unfold validC
  simp only [Bool.and_eq_true, decide_eq_true_eq, List.all_eq_true, ok_n]
  constructor
  · rintro ⟨⟨⟨⟨h1, h2⟩, h3⟩, h4⟩, h5⟩
    exact ⟨⟨h1, h2, h3⟩, h4, h5⟩
  · rintro ⟨⟨h1, h2, h3⟩, h4, h5⟩
    exact ⟨⟨⟨⟨h1, h2⟩, h3⟩, h4⟩, h5⟩
theorem has_c {C : Cnt} {z : Int} : hasC C z = true ↔ validC C = true ∧ 0 ≤ z ∧ z < (C.live.length : Int) := by
  unfold hasC
  simp only [Bool.and_eq_true, decide_eq_true_eq, and_assoc]
theorem getD_ok {l : List Int} (h : ∀ z ∈ l, 0 ≤ z ∧ z ≤ 1099511627776) (i : Nat) : 0 ≤ l.getD i 0 ∧ l.getD i 0 ≤ 1099511627776 := by
  rw [List.getD_eq_getElem?_getD]
  cases h1 : l[i]? with
  | none => simp
  | some z => exact h z (List.mem_of_getElem? h1)
theorem getD_at {l : List Int} {i : Nat} {z : Int} (h : l[i]? = some z) : l.getD i 0 = z := by rw [List.getD_eq_getElem?_getD, h]; rfl
theorem count_len (l : List Int) (L : List Ent) : (countL l L).length = l.length := by
  unfold countL
  induction L generalizing l with
  | nil => rfl
  | cons e L ih => rw [List.foldl_cons, ih, plus_len]
theorem count_next {l : List Int} {L : List Ent} {i : Nat} {e : Ent} (h : L[i]? = some e) : countL l (L.take (i + 1)) = plusL (countL l (L.take i)) e.zone.toNat 1 := by
  unfold countL
  rw [List.take_add_one, h, List.foldl_append]
  rfl
theorem plus_bound {l : List Int} {k : Int} (h : ∀ z ∈ l, 0 ≤ z ∧ z ≤ k) (hk : 0 ≤ k) (i : Nat) : ∀ z ∈ plusL l i 1, 0 ≤ z ∧ z ≤ k + 1 := by
  intro z hz
  unfold plusL at hz
  rcases List.mem_or_eq_of_mem_set hz with hz | rfl
  · have := h z hz
    omega
  · rw [List.getD_eq_getElem?_getD]
    cases h1 : l[i]? with
    | none => simp; omega
    | some y =>
      have := h y (List.mem_of_getElem? h1)
      simp only [Option.getD_some]
      omega
theorem count_bound (n : Nat) (L : List Ent) (i : Nat) (hi : i ≤ L.length) : ∀ z ∈ countL (List.replicate n 0) (L.take i), 0 ≤ z ∧ z ≤ (i : Int) := by
  induction i with
  | zero =>
    intro z hz
    rw [List.take_zero] at hz
    have := List.eq_of_mem_replicate hz
    omega
  | succ i ih =>
    have he : L[i]? = some (L[i]'(by omega)) := List.getElem?_eq_getElem _
    rw [count_next he]
    intro z hz
    have := plus_bound (ih (by omega)) (by omega) _ z hz
    omega
theorem count_valid {n : Nat} (h1 : 1 ≤ n) (h32 : n ≤ 32) (L : List Ent) (hL : L.length ≤ 1000000) (i : Nat) (hi : i ≤ L.length) : validC ⟨countL (List.replicate n 0) (L.take i), List.replicate n 0⟩ = true := by
  refine valid_c.2 ⟨⟨by simp [count_len], by simpa [count_len] using h1, by simpa [count_len] using h32⟩, fun z hz => ?_, fun z hz => ?_⟩
  · have := count_bound n L i hi z hz
    omega
  · have := List.eq_of_mem_replicate hz
    omega
end Go.Proofs.Ytpkogdpgchibdaa.CntMath
