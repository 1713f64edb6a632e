/- Texts that belong together, part 8. -/
import Derived.Test.YtnmhnjjehglcfaaGreatPack7
import Derived.Deep.MidRow
import Derived.Laws.AppendOwn
import Derived.Laws.AppendOwnNone
import Derived.Deep.OwnRows
import Derived.Maps.AppendAt

/- Lists of elements of any type (structs, numbers, strings) that lie in memory, in the blocks of a set, or that the call owns. -/
namespace Go.Proofs.YtnmhnjjehglcfaaGreat.Rws
open Go.RowKit Plan Ents
/-- an element's type, the list's type, the element's cells -/
structure Row (α : Type) where
  et : TypeId
  st : TypeId
  sz : Nat
  wide : Nat
  zero : Value
  c : α → List Value
structure Row.Ok {α : Type} (R : Row α) : Prop where
  len : ∀ e, (R.c e).length = R.sz
  flat : ∀ e, ∀ u ∈ R.c e, u.oneCell' = true
  pos : 0 < R.sz
  info : (Tryz.prog.info? R.et).map (fun i => (i.zero, i.size, i.bytes)) = some (some R.zero, R.sz, R.wide)
  zs : R.zero.cells.size = R.sz
  und : Tryz.prog.underlying R.st = some (.slice R.et)
  small : R.wide ≤ 1000
def Row.all {α : Type} (R : Row α) (L : List α) : List Value := L.flatMap R.c
section
variable {α : Type} {R : Row α}
theorem all_nil : R.all [] = [] := rfl
theorem all_append (L M : List α) : R.all (L ++ M) = R.all L ++ R.all M := by simp [Row.all]
theorem all_cons (e : α) (L : List α) : R.all (e :: L) = R.c e ++ R.all L := rfl
theorem all_one (e : α) : R.all [e] = R.c e := by simp [Row.all]
theorem all_length (hR : R.Ok) (L : List α) : (R.all L).length = L.length * R.sz := by
  induction L with
  | nil => simp [Row.all]
  | cons e L ih => rw [all_cons, List.length_append, ih, List.length_cons, hR.len, Nat.succ_mul]; omega
theorem all_get (hR : R.Ok) {L : List α} {i : Nat} {e : α} (h : L[i]? = some e) (k : Nat) (hk : k < R.sz) : (R.all L)[i * R.sz + k]? = (R.c e)[k]? := by
  induction L generalizing i with
  | nil => cases h
  | cons x L ih =>
    rw [all_cons]
    cases i with
    | zero =>
      obtain rfl := Option.some.inj h
      rw [Nat.zero_mul, Nat.zero_add, List.getElem?_append_left (by rw [hR.len]; exact hk)]
    | succ i =>
      rw [List.getElem?_append_right (by rw [hR.len, Nat.succ_mul]; omega), hR.len]
      have := ih (i := i) h
      rw [← this]
      congr 1
      rw [Nat.succ_mul]
      omega
theorem all_flat (hR : R.Ok) (L : List α) : ∀ u ∈ R.all L, u.oneCell' = true := by
  intro u hu
  obtain ⟨e, _, he⟩ := List.mem_flatMap.1 hu
  exact hR.flat e u he
theorem all_take (hR : R.Ok) (L : List α) (k : Nat) : R.all (L.take k) = (R.all L).take (k * R.sz) := by
  induction L generalizing k with
  | nil => simp [Row.all]
  | cons e L ih =>
    cases k with
    | zero => simp [Row.all]
    | succ k =>
      have hl := hR.len e
      rw [List.take_succ_cons, all_cons, all_cons, ih, List.take_append, List.take_of_length_le (l := R.c e) (by rw [Nat.succ_mul]; omega), hl, show (k + 1) * R.sz - R.sz = k * R.sz by rw [Nat.succ_mul]; omega]
theorem all_drop (hR : R.Ok) (L : List α) (k : Nat) : R.all (L.drop k) = (R.all L).drop (k * R.sz) := by
  induction L generalizing k with
  | nil => simp [Row.all]
  | cons e L ih =>
    cases k with
    | zero => simp [Row.all]
    | succ k =>
      have hl := hR.len e
      rw [List.drop_succ_cons, all_cons, ih, List.drop_append, List.drop_of_length_le (l := R.c e) (by rw [Nat.succ_mul]; omega), hl, List.nil_append, show (k + 1) * R.sz - R.sz = k * R.sz by rw [Nat.succ_mul]; omega]
/-- a list in memory -/
def TList (R : Row α) (w : World) (F : Nat → Prop) (a : Option Addr) (n c : Nat) (L : List α) : Prop :=
  (True ∧ n = 0 ∧ c = 0 ∧ L = []) ∨
  ∃ x, a = some x ∧ n ≤ c ∧ c ≤ maxLen ∧ L.length = n ∧ x.block < w.heap.size ∧ F x.block ∧ ∀ j u, (R.all L)[j]? = some u → w.cell? (x.add j) = some u
theorem TList.nil (w : World) (F : Nat → Prop) : TList R w F none 0 0 [] := .inl ⟨trivial, rfl, rfl, rfl⟩
variable {w w' : World} {F G : Nat → Prop} {a : Option Addr} {n c : Nat} {L : List α}
theorem TList.length (h : TList R w F a n c L) : L.length = n := by
  rcases h with ⟨_, rfl, _, rfl⟩ | ⟨x, _, _, _, h4, _⟩
  · rfl
  · exact h4
theorem TList.cap (h : TList R w F a n c L) : n ≤ c ∧ c ≤ maxLen := by
  rcases h with ⟨_, rfl, rfl, rfl⟩ | ⟨x, _, h2, h3, _⟩
  · exact ⟨Nat.le_refl _, Nat.zero_le _⟩
  · exact ⟨h2, h3⟩
theorem TList.on (h : TList R w F a n c L) (hw : Same F w w') : TList R w' F a n c L := by
  rcases h with h | ⟨x, h1, h2, h3, h4, h5, h6, h7⟩
  · exact .inl h
  · exact .inr ⟨x, h1, h2, h3, h4, Nat.lt_of_lt_of_le h5 hw.1, h6, fun j u hu => hw.cell (by rw [ent_add_block]; exact h6) (h7 j u hu)⟩
theorem TList.mono (h : TList R w F a n c L) (hFG : ∀ b, b < w.heap.size → F b → G b) : TList R w G a n c L := by
  rcases h with h | ⟨x, h1, h2, h3, h4, h5, h6, h7⟩
  · exact .inl h
  · exact .inr ⟨x, h1, h2, h3, h4, h5, hFG _ h5 h6, h7⟩
theorem TList.cut (h : TList R w F a n c L) : TList R w (fun b => F b ∧ b < w.heap.size) a n c L := h.mono fun _ hb hf => ⟨hf, hb⟩
theorem TList.low (h : TList R w F a n c L) : TList R w (fun b => b < w.heap.size) a n c L := h.mono fun _ hb _ => hb
theorem TList.same (h : TList R w F a n c L) (hb : Below w.heap.size w w') : TList R w' (fun b => b < w.heap.size) a n c L := h.low.on (Same.low hb)
theorem TList.at' (hR : R.Ok) (h : TList R w F a n c L) (i : Nat) (hi : i < n) : ∃ x e, a = some x ∧ L[i]? = some e ∧ ∀ k u, (R.c e)[k]? = some u → w.cell? (x.add (i * R.sz + k)) = some u := by
  have hl := h.length
  rcases h with ⟨_, rfl, _, _⟩ | ⟨x, h1, _, _, _, _, _, h7⟩
  · omega
  · have he : L[i]? = some (L[i]'(by omega)) := List.getElem?_eq_getElem _
    refine ⟨x, _, h1, he, fun k u hu => h7 _ u ?_⟩
    have hk : k < R.sz := by have := (List.getElem?_eq_some_iff.1 hu).1; rwa [hR.len] at this
    rw [all_get hR he k hk, hu]
theorem TList.some' (h : TList R w F a n c L) (hn : 0 < n) : ∃ x, a = some x ∧ x.block < w.heap.size ∧ F x.block ∧ ∀ j u, (R.all L)[j]? = some u → w.cell? (x.add j) = some u := by
  rcases h with ⟨_, rfl, _, _⟩ | ⟨x, h1, _, _, _, h5, h6, h7⟩
  · omega
  · exact ⟨x, h1, h5, h6, h7⟩
theorem TList.none (h : TList R w F none n c L) : n = 0 ∧ c = 0 ∧ L = [] := by
  rcases h with ⟨_, h⟩ | ⟨x, h1, _⟩
  · exact h
  · cases h1
theorem TList.news {x : Addr} (h : TList R w F (some x) n c L) : ∀ j u, (R.all L)[j]? = some u → w.cell? (x.add j) = some u := by
  rcases h with ⟨_, _, _, rfl⟩ | ⟨y, h1, _, _, _, _, _, h7⟩
  · intro j u hu
    simp [Row.all] at hu
  · obtain rfl := Option.some.inj h1
    exact h7
/-- the first elements of a list; those behind them -/
theorem TList.front (hR : R.Ok) (h : TList R w F a n c L) (k : Nat) (hk : k ≤ n) : TList R w F a k c (L.take k) := by
  have hl := h.length
  rcases h with ⟨_, rfl, rfl, rfl⟩ | ⟨x, h1, h2, h3, h4, h5, h6, h7⟩
  · obtain rfl : k = 0 := by omega
    exact .inl ⟨trivial, rfl, rfl, by simp⟩
  · refine .inr ⟨x, h1, by omega, h3, by rw [List.length_take]; omega, h5, h6, fun j u hu => h7 j u ?_⟩
    rw [all_take hR, List.getElem?_take] at hu
    split at hu
    · exact hu
    · cases hu
theorem TList.back (hR : R.Ok) {x : Addr} (h : TList R w F (some x) n c L) (k : Nat) (hk : k ≤ n) (hx : 0 < n) : TList R w F (some (x.add (k * R.sz))) (n - k) (c - k) (L.drop k) := by
  have hl := h.length
  rcases h with ⟨_, rfl, rfl, rfl⟩ | ⟨y, h1, h2, h3, h4, h5, h6, h7⟩
  · omega
  · obtain rfl := Option.some.inj h1
    refine .inr ⟨_, rfl, by omega, by omega, by rw [List.length_drop]; omega, by rw [ent_add_block]; exact h5, by rw [ent_add_block]; exact h6, fun j u hu => ?_⟩
    rw [all_drop hR, List.getElem?_drop] at hu
    rw [Addr.add_add]
    exact h7 _ u hu
/-- a list that the call owns is one that is read -/
theorem owns_list (hR : R.Ok) {B : Nat} {v : Value} (h : w.ownsRow B R.et R.sz v n (R.all L)) (hF : ∀ b, v.ownBlock = some b → F b) : ∃ a c, v = .slice a n c ∧ TList R w F a n c L := by
  have hp := hR.pos
  have hl : L.length = n := by have h1 := h.1; rw [all_length hR] at h1; exact Nat.eq_of_mul_eq_mul_right hp h1
  rcases h.2 with ⟨rfl, rfl⟩ | ⟨g, cap, cur, rfl, hb, hg, h1, h2, h3, h4⟩
  · obtain rfl : L = [] := List.length_eq_zero_iff.1 hl
    exact ⟨none, 0, rfl, .inl ⟨trivial, rfl, rfl, rfl⟩⟩
  · exact ⟨_, _, rfl, .inr ⟨_, rfl, h1, h2, hl, (Array.getElem?_eq_some_iff.1 hg).1, hF g rfl, fun j u hu => h.cells (g := g) rfl j u hu⟩⟩
theorem owns_len (hR : R.Ok) {B : Nat} {v : Value} (h : w.ownsRow B R.et R.sz v n (R.all L)) : L.length = n := by
  have h1 := h.1
  rw [all_length hR] at h1
  exact Nat.eq_of_mul_eq_mul_right hR.pos h1
theorem owns_some {B : Nat} {v : Value} {xs : List Value} (h : w.ownsRow B R.et R.sz v n xs) (hn : 0 < n) : ∃ g c, v = .slice (some ⟨g, 0, none⟩) n c ∧ B ≤ g ∧ g < w.heap.size := by
  rcases h.2 with ⟨_, h0⟩ | ⟨g, cap, cur, rfl, hb, hg, _⟩
  · omega
  · exact ⟨g, cap, rfl, hb, (Array.getElem?_eq_some_iff.1 hg).1⟩
/-- the cell of an element of a list of the call's own -/
theorem own_cell (hR : R.Ok) {B g : Nat} {j k : Nat} {e : α} {u : Value} (h : w.ownsRow B R.et R.sz (.slice (some ⟨g, 0, none⟩) n c) n (R.all L)) (hj : L[j]? = some e) (hk : (R.c e)[k]? = some u) : w.cell? ⟨g, j * R.sz + k, none⟩ = some u ∧ w.frozen? ⟨g, j * R.sz + k, none⟩ = false := by
  have hk' : k < R.sz := by have := (List.getElem?_eq_some_iff.1 hk).1; rwa [hR.len] at this
  constructor
  · have := h.cells (g := g) rfl (j * R.sz + k) u (by rw [all_get hR hj k hk', hk])
    rw [Addr.add_lit, Nat.zero_add] at this
    exact this
  · rcases h.2 with ⟨h, _⟩ | ⟨g', cap', cur, hv, hb, hg, _⟩
    · cases h
    · cases hv
      simp [World.frozen?, hg]
/-- a list without elements in a block of its own; one with none -/
theorem own_empty (R : Row α) (w : World) {H : Nat} (hH : w.heap.size = H) : (w.alloc (.cells #[] R.et)).ownsRow H R.et R.sz (.slice (some ⟨H, 0, none⟩) 0 0) 0 (R.all []) := by
  subst hH
  exact World.ownsRow_made (base := w.heap.size) (e := R.et) (size := R.sz) w #[] 0 (Nat.le_refl _) (by unfold maxLen; decide) (by simp)
theorem own_none (R : Row α) (w : World) (B : Nat) : w.ownsRow B R.et R.sz (.slice none 0 0) 0 (R.all []) := World.ownsRow_nil _ _ _ _
/-- an element in a block of its own -/
theorem list_one {g : Nat} {e : α} {fr : Nat × Nat} (h : w.heap[g]? = some (.cells (R.c e).toArray R.et fr)) : ∀ j u, (R.all [e])[j]? = some u → w.cell? ((⟨g, 0, none⟩ : Addr).add j) = some u := by
  intro j u hu
  rw [all_one] at hu
  rw [Addr.add_lit, Nat.zero_add]
  exact (cell_of_row w g j _ _ _ h).trans (by rw [List.getElem?_toArray]; exact hu)
theorem wp_append_one (hR : R.Ok) {o : Oper} {a : Act} {K : Act → World → Prop} {Q : Exit → Act → World → Prop} (s x : Operand)
    (ho : o.op = .call { callee := .builtin .append, args := #[s, x], argTypes := #[R.st, R.st] })
    (base : Nat) (v : Value) (m0 : Nat) (M : List α) (hs : a.eval s = v) (hown : w.ownsRow base R.et R.sz v m0 (R.all M)) (g : Nat) (e : α) {fr : Nat × Nat} (hx : a.eval x = .slice (some ⟨g, 0, none⟩) 1 1) (hg : w.heap[g]? = some (.cells (R.c e).toArray R.et fr)) (hm : m0 ≤ 900000) (hbase : base ≤ w.heap.size)
    (h : ∀ g' c' w', w'.ownsRow base R.et R.sz (.slice (some ⟨g', 0, none⟩) (m0 + 1) c') (m0 + 1) (R.all (M ++ [e])) → w.grownBy w' v.ownBlock → (v.ownBlock = some g' ∨ g' = w.heap.size) → K (a.put o.dst (.slice (some ⟨g', 0, none⟩) (m0 + 1) c')) w') : o.wp Tryz.prog a w K Q := by
  obtain ⟨i1, hi1, hy0, hy1, hy2⟩ := info_parts hR.info
  have hsm := hR.small
  refine wp_append_lies w s x R.st ho base R.et i1 _ R.sz R.wide hR.und hi1 hy0 hy1 hy2 hR.zs hR.pos v m0 (R.all M) hs hown ⟨g, 0, none⟩ 1 1 (R.all [e]) hx (by rw [all_one, hR.len, Nat.one_mul]) (list_one hg) (all_flat hR _) (by decide) (by unfold maxLen; omega) (Nat.le_trans (Nat.mul_le_mul (show m0 + 1 ≤ 1000000 by omega) hsm) (by decide)) hbase _ rfl ?_
  intro g' c' w' h1 h2 h3 _
  rw [← all_append] at h1
  exact h g' c' w' h1 h2 h3
/-- where a list that the call owns grows, all else stays -/
theorem TList.grown {g : Option Nat} (h : TList R w F a n c L) (hg : w.grownBy w' g) (hF : ∀ b, g = some b → ¬ F b) : TList R w' F a n c L := by
  refine h.on ⟨hg.size, fun b hb hlt => hg.block b hlt (fun e => hF b e.symm hb)⟩
/-- cells put one after the other -/
def spliced (xs : List Value) : Nat → List Value → List Value
  | _, [] => xs
  | o, v :: r => spliced (xs.set o v) (o + 1) r
theorem spliced_cons (x : Value) (xs : List Value) (o : Nat) (vs : List Value) : spliced (x :: xs) (o + 1) vs = x :: spliced xs o vs := by
  induction vs generalizing xs o with
  | nil => rfl
  | cons v r ih => simp only [spliced, List.set_cons_succ]; rw [ih]
theorem spliced_front (xs ys vs : List Value) (o : Nat) : spliced (xs ++ ys) (xs.length + o) vs = xs ++ spliced ys o vs := by
  induction xs with
  | nil => simp
  | cons x xs ih => rw [List.cons_append, List.length_cons, show xs.length + 1 + o = xs.length + o + 1 by omega, spliced_cons, ih, List.cons_append]
theorem spliced_zero (xs ys vs : List Value) (h : xs.length = vs.length) : spliced (xs ++ ys) 0 vs = vs ++ ys := by
  induction vs generalizing xs with
  | nil => rw [List.length_eq_zero_iff.1 h]; rfl
  | cons v r ih =>
    match xs, h with
    | x :: xs, h =>
      simp only [List.cons_append, spliced, List.set_cons_zero]
      rw [spliced_cons, ih xs (by simpa using h)]
theorem all_set (hR : R.Ok) {k : Nat} (h : k < L.length) (e : α) : R.all (L.set k e) = spliced (R.all L) (k * R.sz) (R.c e) := by
  induction L generalizing k with
  | nil => cases h
  | cons x L ih =>
    cases k with
    | zero => rw [List.set_cons_zero, all_cons, all_cons, Nat.zero_mul, spliced_zero _ _ _ (by rw [hR.len, hR.len])]
    | succ k =>
      rw [List.set_cons_succ, all_cons, all_cons, ih (Nat.lt_of_succ_lt_succ h), show (k + 1) * R.sz = (R.c x).length + k * R.sz by rw [hR.len, Nat.succ_mul]; omega, spliced_front]
theorem owns_spliced {B sz g n cap : Nat} {t : TypeId} (vs : List Value) : ∀ {w : World} (o : Nat) {C : List Value}, w.ownsRow B t sz (.slice (some ⟨g, 0, none⟩) n cap) n C → (w.setCells g o vs).ownsRow B t sz (.slice (some ⟨g, 0, none⟩) n cap) n (spliced C o vs) := by
  induction vs with
  | nil => intro w o C h; exact h
  | cons v r ih => intro w o C h; exact ih (o + 1) (e_owns_cell h o v)
/-- the store of an element into a list of the call's own -/
theorem own_set (hR : R.Ok) {B g k : Nat} (h : w.ownsRow B R.et R.sz (.slice (some ⟨g, 0, none⟩) n c) n (R.all L)) (hk : k < n) (e : α) :
    (w.setCells g (k * R.sz) (R.c e)).ownsRow B R.et R.sz (.slice (some ⟨g, 0, none⟩) n c) n (R.all (L.set k e)) := by
  have hl := owns_len hR h
  rw [all_set hR (by omega)]
  exact owns_spliced _ _ h
theorem own_there (hR : R.Ok) {B g k : Nat} (h : w.ownsRow B R.et R.sz (.slice (some ⟨g, 0, none⟩) n c) n (R.all L)) (hk : k < n) : w.there g (k * R.sz) R.sz := by
  intro j hj
  obtain ⟨e, he⟩ : ∃ e, L[k]? = some e := ⟨_, List.getElem?_eq_getElem (by have := owns_len hR h; omega)⟩
  obtain ⟨u, hu⟩ : ∃ u, (R.c e)[j]? = some u := ⟨_, List.getElem?_eq_getElem (by rw [hR.len]; exact hj)⟩
  obtain ⟨h1, h2⟩ := own_cell hR h he hu
  exact ⟨by rw [h1]; rfl, h2⟩
theorem Same.cells {g : Nat} (hr : ¬ F g) : ∀ (vs : List Value) (o : Nat) (w' : World), Same F w' (w'.setCells g o vs)
  | [], _, w' => Same.refl F w'
  | v :: r, o, _ => (Same.setCell (p := ⟨g, o, none⟩) hr v).trans (Same.cells hr r (o + 1) _)
end
end Go.Proofs.YtnmhnjjehglcfaaGreat.Rws

/- Histories: what the document's functions of layer 18 give, as plain functions of lists. -/
namespace Go.Proofs.YtnmhnjjehglcfaaGreat.HisMath
structure Ev where
  ret : Bool
  queue : Int
  serial : Int
  kind : Int
  block : Int
  data : ByteArray
  err : Int
  res : ByteArray
deriving DecidableEq
def seek (p : Ev → Bool) (l : List Ev) : Int := match l.findIdx? p with | some i => (i : Int) | none => -1
def invP (s : Int) (x : Ev) : Bool := !x.ret && decide (x.serial = s)
def retP (s : Int) (x : Ev) : Bool := x.ret && decide (x.serial = s)
def invI (l : List Ev) (s : Int) : Int := seek (invP s) l
def retI (l : List Ev) (s : Int) : Int := seek (retP s) l
def fitsB (kind err : Int) (n : Nat) : Bool :=
  if err = 0 then (if kind = 1 then decide (n = 16) else decide (n = 0))
  else if err = 7 ∨ err = 1 ∨ err = 2 ∨ err = 3 ∨ err = 12 then decide (n = 0) else false
def beforeB (l : List Ev) (a b : Int) : Bool := decide (0 ≤ retI l a) && decide (0 ≤ invI l b) && decide (retI l a < invI l b)
theorem seek_at {p : Ev → Bool} {l : List Ev} {j : Nat} {e : Ev} (h : l[j]? = some e) (hp : p e = true) (hb : ∀ i x, i < j → l[i]? = some x → p x = false) : seek p l = (j : Int) := by
  obtain ⟨hj, he⟩ := List.getElem?_eq_some_iff.1 h
  have : l.findIdx? p = some j := by
    rw [List.findIdx?_eq_some_iff_getElem]
    refine ⟨hj, by rw [he]; exact hp, fun i hi => ?_⟩
    rw [hb i _ hi (List.getElem?_eq_getElem (by omega))]
    simp
  unfold seek
  rw [this]
theorem seek_none {p : Ev → Bool} {l : List Ev} (hb : ∀ i x, i < l.length → l[i]? = some x → p x = false) : seek p l = -1 := by
  have : l.findIdx? p = none := by
    rw [List.findIdx?_eq_none_iff]
    intro x hx
    obtain ⟨i, hi, rfl⟩ := List.mem_iff_getElem.1 hx
    exact hb i _ hi (List.getElem?_eq_getElem hi)
  unfold seek
  rw [this]
end Go.Proofs.YtnmhnjjehglcfaaGreat.HisMath

/- Lists of numbers that lie in memory, in the blocks of a set; lists of numbers that the call owns. -/
namespace Go.Proofs.YtnmhnjjehglcfaaGreat.Ents
open Go.RowKit Plan EntMath
def IList (w : World) (F : Nat → Prop) (a : Option Addr) (len cap : Nat) (Z : List Int) : Prop :=
  (True ∧ len = 0 ∧ cap = 0 ∧ Z = []) ∨
  ∃ x, a = some x ∧ len ≤ cap ∧ cap ≤ maxLen ∧ Z.length = len ∧ x.block < w.heap.size ∧ F x.block ∧ ∀ (j : Nat) z, Z[j]? = some z → w.cell? (x.add j) = some (.int .i64 z)
theorem IList.nil (w : World) (F : Nat → Prop) : IList w F none 0 0 [] := .inl ⟨trivial, rfl, rfl, rfl⟩
theorem IList.length {w : World} {F : Nat → Prop} {a : Option Addr} {n c : Nat} {Z : List Int} (h : IList w F a n c Z) : Z.length = n := by
  rcases h with ⟨_, rfl, _, rfl⟩ | ⟨x, _, _, _, h4, _⟩
  · rfl
  · exact h4
theorem IList.cap {w : World} {F : Nat → Prop} {a : Option Addr} {n c : Nat} {Z : List Int} (h : IList w F a n c Z) : n ≤ c ∧ c ≤ maxLen := by
  rcases h with ⟨_, rfl, rfl, rfl⟩ | ⟨x, _, h2, h3, _⟩
  · exact ⟨Nat.le_refl _, Nat.zero_le _⟩
  · exact ⟨h2, h3⟩
theorem IList.on {F : Nat → Prop} {w w' : World} {a : Option Addr} {n c : Nat} {Z : List Int} (h : IList w F a n c Z) (hw : Same F w w') : IList w' F a n c Z := by
  rcases h with h | ⟨x, h1, h2, h3, h4, h5, h6, h7⟩
  · exact .inl h
  · exact .inr ⟨x, h1, h2, h3, h4, Nat.lt_of_lt_of_le h5 hw.1, h6, fun j z hz => hw.cell (by rw [ent_add_block]; exact h6) (h7 j z hz)⟩
theorem IList.mono {F G : Nat → Prop} {w : World} {a : Option Addr} {n c : Nat} {Z : List Int} (h : IList w F a n c Z) (hFG : ∀ b, b < w.heap.size → F b → G b) : IList w G a n c Z := by
  rcases h with h | ⟨x, h1, h2, h3, h4, h5, h6, h7⟩
  · exact .inl h
  · exact .inr ⟨x, h1, h2, h3, h4, h5, hFG _ h5 h6, h7⟩
theorem IList.cut {F : Nat → Prop} {w : World} {a : Option Addr} {n c : Nat} {Z : List Int} (h : IList w F a n c Z) : IList w (fun b => F b ∧ b < w.heap.size) a n c Z := h.mono fun _ hb hf => ⟨hf, hb⟩
theorem IList.low {F : Nat → Prop} {w : World} {a : Option Addr} {n c : Nat} {Z : List Int} (h : IList w F a n c Z) : IList w (fun b => b < w.heap.size) a n c Z := h.mono fun _ hb _ => hb
theorem IList.same {F : Nat → Prop} {w w' : World} {a : Option Addr} {n c : Nat} {Z : List Int} (h : IList w F a n c Z) (hb : Below w.heap.size w w') : IList w' (fun b => b < w.heap.size) a n c Z := h.low.on (Same.low hb)
theorem IList.at' {F : Nat → Prop} {w : World} {a : Option Addr} {n c : Nat} {Z : List Int} (h : IList w F a n c Z) (i : Nat) (hi : i < n) : ∃ x z, a = some x ∧ Z[i]? = some z ∧ w.cell? (x.add i) = some (.int .i64 z) := by
  have hl := h.length
  rcases h with ⟨_, rfl, _, _⟩ | ⟨x, h1, _, _, _, _, _, h7⟩
  · omega
  · have he : Z[i]? = some (Z[i]'(by omega)) := List.getElem?_eq_getElem _
    exact ⟨x, _, h1, he, h7 i _ he⟩
theorem IList.some' {F : Nat → Prop} {w : World} {a : Option Addr} {n c : Nat} {Z : List Int} (h : IList w F a n c Z) (hn : 0 < n) : ∃ x, a = some x ∧ x.block < w.heap.size ∧ ∀ (j : Nat) z, Z[j]? = some z → w.cell? (x.add j) = some (.int .i64 z) := by
  rcases h with ⟨_, rfl, _, _⟩ | ⟨x, h1, _, _, _, h5, _, h7⟩
  · omega
  · exact ⟨x, h1, h5, h7⟩
/-- a list of numbers as cells -/
def intC (Z : List Int) : List Value := Z.map fun z => .int .i64 z
theorem intC_at {Z : List Int} {j : Nat} {z : Int} (h : Z[j]? = some z) : (intC Z)[j]? = some (.int .i64 z) := by simp [intC, h]
theorem intC_cell {Z : List Int} {w : World} {x : Addr} (h : ∀ (j : Nat) z, Z[j]? = some z → w.cell? (x.add j) = some (.int .i64 z)) : ∀ j u, (intC Z)[j]? = some u → w.cell? (x.add j) = some u := by
  intro j u hu
  unfold intC at hu
  rw [List.getElem?_map] at hu
  cases hz : Z[j]? with
  | none => rw [hz] at hu; cases hu
  | some z =>
    rw [hz] at hu
    obtain rfl := Option.some.inj hu
    exact h j z hz
theorem int_info : (Tryz.prog.info? 3).map (fun i => (i.zero, i.size, i.bytes)) = some (some (.int .i64 0), 1, 8) := by kernel_rfl
end Go.Proofs.YtnmhnjjehglcfaaGreat.Ents

/- A list that is written out. -/
namespace Go.Proofs.YtnmhnjjehglcfaaGreat.Rws
open Ents
theorem lit_list {α : Type} {R : Row α} {w : World} {F : Nat → Prop} {g : Nat} {L : List α} {fr : Nat × Nat} (h : w.heap[g]? = some (.cells (R.all L).toArray R.et fr)) (hF : F g) (hn : L.length ≤ maxLen) : TList R w F (some ⟨g, 0, none⟩) L.length L.length L := by
  refine .inr ⟨_, rfl, Nat.le_refl _, hn, rfl, e_lt h, hF, fun j u hu => ?_⟩
  rw [Addr.add_lit, Nat.zero_add]
  exact (cell_of_row w g j _ _ _ h).trans (by rw [List.getElem?_toArray]; exact hu)
end Go.Proofs.YtnmhnjjehglcfaaGreat.Rws
namespace Go.Proofs.YtnmhnjjehglcfaaGreat.Ents
open Go.RowKit Plan Rws
theorem lit_off (x : Addr) (i : Nat) (hi : 0 < i) : x.add i = ⟨x.block, x.off + i, none⟩ := by
  obtain ⟨j, rfl⟩ : ∃ j, i = j + 1 := ⟨i - 1, by omega⟩
  have := ent_add_off x 0 j
  unfold Addr.add
  simp
end Go.Proofs.YtnmhnjjehglcfaaGreat.Ents

/- Where a walk stands: its boxes and the lists that it owns, in blocks apart from each other, and that all below is as it was (Env); which blocks it only reads (Quiet), and that a step leaves them alone (Keep). One lemma for each kind of step. -/
namespace Go.Proofs.YtnmhnjjehglcfaaGreat.Env
open Go.RowKit Plan Ents Rws
theorem owns_mono {w : World} {base base' : Nat} {e : TypeId} {size : Nat} {v : Value} {n : Nat} {xs : List Value} (h : w.ownsRow base e size v n xs) (hb : base' ≤ base) : w.ownsRow base' e size v n xs :=
  ⟨h.1, h.2.imp id fun ⟨g, cap, cur, e1, h1, r⟩ => ⟨g, cap, cur, e1, Nat.le_trans hb h1, r⟩⟩
inductive Thing where
  | box (g : Nat) (o : Obj)
  | own (t : TypeId) (sz : Nat) (v : Value) (n : Nat) (xs : List Value)
  | any (hs : Nat → Prop) (Q : World → Prop)
/-- the blocks of a thing -/
def Thing.has : Thing → Nat → Prop
  | .box g _, b => b = g
  | .own _ _ v _ _, b => v.ownBlock = some b
  | .any hs _, b => hs b
def Thing.holds (B : Nat) (W : World) : Thing → Prop
  | .box g o => B ≤ g ∧ W.heap[g]? = some o
  | .own t sz v n xs => W.ownsRow B t sz v n xs
  | .any hs Q => Q W ∧ (∀ b, hs b → B ≤ b ∧ b < W.heap.size) ∧ ∀ W1 W2 : World, Q W1 → W1.heap.size ≤ W2.heap.size → (∀ b, hs b → W2.heap[b]? = W1.heap[b]?) → Q W2
/-- a list of the call's own with elements of a type of its own -/
abbrev lst {α : Type} (R : Row α) (v : Value) (n : Nat) (L : List α) : Thing := .own R.et R.sz v n (R.all L)
abbrev slv (g n c : Nat) : Value := .slice (some ⟨g, 0, none⟩) n c
section
variable {B0 : Nat} {W W' : World} {x : Thing}
theorem Thing.holds.lt (h : x.holds B0 W) {g : Nat} (hg : x.has g) : B0 ≤ g ∧ g < W.heap.size := by
  cases x with
  | box g' o =>
    obtain rfl : g = g' := hg
    exact ⟨h.1, e_lt h.2⟩
  | own t sz v n xs => exact World.ownsRow.lt h g hg
  | any hs Q => exact h.2.1 g hg
theorem Thing.holds.same (h : x.holds B0 W) (hz : W.heap.size ≤ W'.heap.size) (hs : ∀ b, x.has b → W'.heap[b]? = W.heap[b]?) : x.holds B0 W' := by
  cases x with
  | box g p => exact ⟨h.1, (hs g rfl).trans h.2⟩
  | own t sz v n xs =>
    refine ⟨h.1, h.2.imp id ?_⟩
    rintro ⟨g, cap, cur, rfl, hb, hgg, rest⟩
    exact ⟨g, cap, cur, rfl, hb, (hs g rfl).trans hgg, rest⟩
  | any hs' Q => exact ⟨h.2.2 W W' h.1 hz hs, fun b hb => ⟨(h.2.1 b hb).1, Nat.lt_of_lt_of_le (h.2.1 b hb).2 hz⟩, h.2.2⟩
theorem Thing.holds.kept {o : Option Nat} (h : x.holds B0 W) (hg : W.grownBy W' o) (ho : ∀ g, x.has g → o ≠ some g) : x.holds B0 W' :=
  h.same hg.size fun b hb => hg.block b (h.lt hb).2 (fun e => ho b hb e.symm)
theorem Thing.holds.on (h : x.holds B0 W) (hb : Below W.heap.size W W') : x.holds B0 W' := h.same hb.size fun b hb' => hb.block b (h.lt hb').2
end
structure Env (w W : World) (T : List Thing) : Prop where
  hold : ∀ x ∈ T, x.holds w.heap.size W
  nd : ∀ (i j : Nat) (x y : Thing) (g : Nat), T[i]? = some x → T[j]? = some y → x.has g → y.has g → i = j
  hb : Below w.heap.size w W
section
variable {w W W' : World} {T : List Thing}
/-- to give the world of a walk a name: 'obtain ⟨w8, rfl⟩ := K.name' -/
theorem Env.name (_ : Env w W T) : ∃ W0, W0 = W := ⟨W, rfl⟩
theorem Env.start (w : World) : Env w w [] := ⟨fun _ h => absurd h (by simp), fun i _ _ _ _ h => by simp at h, Below.refl _ _⟩
theorem Env.at' (K : Env w W T) (i : Nat) {x : Thing} (h : T[i]? = some x) : x.holds w.heap.size W := K.hold _ (List.mem_of_getElem? h)
theorem Env.get (K : Env w W T) (i : Nat) {g : Nat} {o : Obj} (h : T[i]? = some (.box g o)) : W.heap[g]? = some o := (K.at' i h).2
theorem Env.lo (K : Env w W T) (i : Nat) {g : Nat} {o : Obj} (h : T[i]? = some (.box g o)) : w.heap.size ≤ g := (K.at' i h).1
theorem Env.lt (K : Env w W T) (i : Nat) {g : Nat} {o : Obj} (h : T[i]? = some (.box g o)) : g < W.heap.size := e_lt (K.get i h)
theorem Env.own (K : Env w W T) (i : Nat) {t : TypeId} {sz n : Nat} {v : Value} {xs : List Value} (h : T[i]? = some (.own t sz v n xs)) : W.ownsRow w.heap.size t sz v n xs := K.at' i h
theorem Env.on (K : Env w W T) (h : Below W.heap.size W W') : Env w W' T := ⟨fun x hx => (K.hold x hx).on h, K.nd, K.hb.trans (h.mono K.hb.size)⟩
theorem Env.drew (K : Env w W T) : Env w W.drew T := K.on (Below.refl _ _).drew
theorem Env.cons (K : Env w W T) (h : Below W.heap.size W W') {y : Thing} (hy : y.holds w.heap.size W') (hn : ∀ g, y.has g → W.heap.size ≤ g) : Env w W' (y :: T) := by
  have hap : ∀ (j : Nat) (z : Thing) (g : Nat), T[j]? = some z → y.has g → z.has g → False := fun j z g hz h1 h2 => by
    have a1 := hn g h1
    have a2 := ((K.hold z (List.mem_of_getElem? hz)).lt h2).2
    omega
  refine ⟨fun x hx => ?_, fun i j a b g hi hj ha hb => ?_, (K.on h).hb⟩
  · rcases List.mem_cons.1 hx with rfl | hx
    · exact hy
    · exact (K.hold x hx).on h
  · cases i with
    | zero =>
      cases j with
      | zero => rfl
      | succ j =>
        obtain rfl := Option.some.inj hi
        exact (hap j b g hj ha hb).elim
    | succ i =>
      cases j with
      | zero =>
        obtain rfl := Option.some.inj hj
        exact (hap i a g hi hb ha).elim
      | succ j => rw [K.nd i j a b g hi hj ha hb]
theorem Env.al (K : Env w W T) (o : Obj) : Env w (W.alloc o) (.box W.heap.size o :: T) :=
  K.cons ((Below.refl _ _).alloc (Nat.le_refl _) o) (show Thing.holds w.heap.size (W.alloc o) (.box W.heap.size o) from ⟨K.hb.size, heap_alloc_new W o⟩) (fun g hg => by obtain rfl : g = W.heap.size := hg; exact Nat.le_refl _)
theorem Env.al' (K : Env w W T) (o : Obj) : Env w (W.alloc o) T := K.on ((Below.refl _ _).alloc (Nat.le_refl _) o)
/-- a list without elements, in a block of its own; one without a block -/
theorem Env.empty {α : Type} (R : Row α) (K : Env w W T) : Env w (W.alloc (.cells #[] R.et)) (lst R (slv W.heap.size 0 0) 0 [] :: T) :=
  K.cons ((Below.refl _ _).alloc (Nat.le_refl _) _) (owns_mono (own_empty R W rfl) K.hb.size) (fun g hg => by obtain rfl := Option.some.inj hg; exact Nat.le_refl _)
theorem Env.nil {α : Type} (R : Row α) (K : Env w W T) : Env w W (lst R (.slice none 0 0) 0 [] :: T) :=
  K.cons (Below.refl _ _) (own_none R W _) (fun g hg => by cases hg)
/-- one thing changes, in its own block or into a new one; all others stay -/
theorem Env.set (K : Env w W T) {o : Option Nat} (h : W.grownBy W' o) (i : Nat) {x y : Thing} (hx : T[i]? = some x) (ho : ∀ g, o = some g → x.has g) (hy : y.holds w.heap.size W')
    (hn : ∀ g, y.has g → x.has g ∨ W.heap.size ≤ g) : Env w W' (T.set i y) := by
  have hkeep : ∀ (j : Nat) (z : Thing), j ≠ i → T[j]? = some z → z.holds w.heap.size W' := fun j z hji hz => by
    refine (K.at' j hz).kept h (fun g hg e => hji ?_)
    exact K.nd j i z x g hz hx hg (ho g e)
  have hap : ∀ (j : Nat) (z : Thing) (g : Nat), j ≠ i → T[j]? = some z → z.has g → y.has g → False := fun j z g hji hz h1 h2 => by
    rcases hn g h2 with h3 | h3
    · exact hji (K.nd j i z x g hz hx h1 h3)
    · have := ((K.at' j hz).lt h1).2
      omega
  have hlt : i < T.length := (List.getElem?_eq_some_iff.1 hx).1
  refine ⟨fun z hz => ?_, fun a b p q g ha hb hp hq => ?_, ?_⟩
  · obtain ⟨j, hj⟩ := List.mem_iff_getElem?.1 hz
    by_cases hji : j = i
    · subst hji
      rw [List.getElem?_set_self hlt] at hj
      obtain rfl := Option.some.inj hj
      exact hy
    · rw [List.getElem?_set_ne (fun e => hji e.symm)] at hj
      exact hkeep j z hji hj
  · by_cases hai : a = i
    · by_cases hbi : b = i
      · rw [hai, hbi]
      · subst hai
        rw [List.getElem?_set_self hlt] at ha
        obtain rfl := Option.some.inj ha
        rw [List.getElem?_set_ne (fun e => hbi e.symm)] at hb
        exact (hap b q g hbi hb hq hp).elim
    · rw [List.getElem?_set_ne (fun e => hai e.symm)] at ha
      by_cases hbi : b = i
      · subst hbi
        rw [List.getElem?_set_self hlt] at hb
        obtain rfl := Option.some.inj hb
        exact (hap a p g hai ha hp hq).elim
      · rw [List.getElem?_set_ne (fun e => hbi e.symm)] at hb
        exact K.nd a b p q g ha hb hp hq
  · exact K.hb.grown h K.hb.size (fun g hg => ((K.at' i hx).lt (ho g hg)).1)
/-- a whole row is stored into a box -/
theorem Env.put (K : Env w W T) (i : Nat) {g : Nat} {cs cs' : Array Value} {t : TypeId} (hx : T[i]? = some (.box g (.cells cs t (0, 0)))) {T' : List Thing} (hT : T' = T.set i (.box g (.cells cs' t (0, 0)))) : Env w (W.setRow g cs') T' := by
  subst hT
  have hg := K.get i hx
  have hgr : W.grownBy (W.setRow g cs') (some g) := ⟨rfl, rfl, rfl, by simp, fun k _ hk => setRow_other W g k _ (fun e => hk (by rw [e]))⟩
  exact K.set hgr i hx (fun g' h => (Option.some.inj h).symm) (show Thing.holds w.heap.size (W.setRow g cs') (.box g (.cells cs' t (0, 0))) from ⟨K.lo i hx, setRow_heap _ _ _ _ _ _ hg⟩) (fun g' h => .inl h)
/-- one cell of a box is stored, as a walk writes it -/
theorem Env.put1 (K : Env w W T) (i : Nat) {g : Nat} {cs cs' : Array Value} {t : TypeId} (hx : T[i]? = some (.box g (.cells cs t (0, 0)))) (o : Nat) (v : Value) (hc : cs.setIfInBounds o v = cs') {T' : List Thing} (hT : T' = T.set i (.box g (.cells cs' t (0, 0)))) : Env w (W.setCell ⟨g, o, none⟩ v) T' := by
  rw [setCell_eq_setRow W g o cs t (0, 0) v (K.get i hx), hc]
  exact K.put i hx hT
/-- the last step's things, without those that are not wanted any more, in another order -/
theorem Env.sub (K : Env w W T) (f : List Nat) {T' : List Thing} (hT : T' = f.filterMap (T[·]?)) (hf : f.Nodup) (hl : ∀ i ∈ f, i < T.length) : Env w W T' := by
  subst hT
  have hget : ∀ (i : Nat) (x : Thing), (f.filterMap (T[·]?))[i]? = some x → ∃ k, f[i]? = some k ∧ T[k]? = some x := by
    clear hf
    induction f with
    | nil => intro i x h; simp at h
    | cons k f ih =>
      intro i x h
      have hk := hl k (by simp)
      rw [List.filterMap_cons, List.getElem?_eq_getElem hk] at h
      cases i with
      | zero => exact ⟨k, rfl, by rw [List.getElem?_eq_getElem hk]; simpa using h⟩
      | succ i => exact ih (fun i hi => hl i (List.mem_cons_of_mem _ hi)) i x (by simpa using h)
  refine ⟨fun x hx => ?_, fun i j x y g hi hj hx hy => ?_, K.hb⟩
  · obtain ⟨k, _, hk⟩ := List.mem_filterMap.1 hx
    exact K.at' k hk
  · obtain ⟨k, hk, hkx⟩ := hget i x hi
    obtain ⟨l, hl', hly⟩ := hget j y hj
    have := K.nd k l x y g hkx hly hx hy
    subst this
    have h1 := (List.getElem?_eq_some_iff.1 hk).1
    have h2 := (List.getElem?_eq_some_iff.1 hl').1
    exact (List.getElem_inj (h₀ := h1) (h₁ := h2) hf).1 (by rw [(List.getElem_eq_iff h1).2 hk, (List.getElem_eq_iff h2).2 hl'])
/-- the blocks in which lists may lie that the walk only reads: those of F, or new ones; no box, and no list of its own -/
def Quiet (w : World) (F : Nat → Prop) (W : World) (T : List Thing) : Nat → Prop := fun b => (F b ∨ w.heap.size ≤ b) ∧ b < W.heap.size ∧ ∀ x ∈ T, ¬ x.has b
structure Keep (w : World) (F : Nat → Prop) (W : World) (T : List Thing) (W' : World) (T' : List Thing) : Prop where
  size : W.heap.size ≤ W'.heap.size
  rest : ∀ b, Quiet w F W T b → Quiet w F W' T' b
  same : ∀ b, Quiet w F W T b → W'.heap[b]? = W.heap[b]?
variable {F : Nat → Prop} {T' : List Thing}
theorem Keep.on' (k : Keep w F W T W' T') : Same (Quiet w F W T) W W' := ⟨k.size, fun b hb _ => k.same b hb⟩
theorem Keep.trans {W2 : World} {T2 : List Thing} (k : Keep w F W T W' T') (k2 : Keep w F W' T' W2 T2) : Keep w F W T W2 T2 :=
  ⟨Nat.le_trans k.size k2.size, fun b h => k2.rest b (k.rest b h), fun b h => (k2.same b (k.rest b h)).trans (k.same b h)⟩
theorem Env.keep_on (_ : Env w W T) (h : Below W.heap.size W W') : Keep w F W T W' T :=
  ⟨h.size, fun _ hb => ⟨hb.1, Nat.lt_of_lt_of_le hb.2.1 h.size, hb.2.2⟩, fun b hb => h.block b hb.2.1⟩
/-- one thing changes, in its own block or into a new one -/
theorem Env.keep_set (_ : Env w W T) {o : Option Nat} (h : W.grownBy W' o) (i : Nat) {x y : Thing} (hx : T[i]? = some x) (ho : ∀ g, o = some g → x.has g)
    (hn : ∀ g, y.has g → x.has g ∨ W.heap.size ≤ g) : Keep w F W T W' (T.set i y) := by
  have hxm := List.mem_of_getElem? hx
  refine ⟨h.size, fun b hb => ⟨hb.1, Nat.lt_of_lt_of_le hb.2.1 h.size, fun z hz e => ?_⟩, fun b hb => h.block b hb.2.1 (fun e => hb.2.2 x hxm (ho b e.symm))⟩
  rcases List.mem_or_eq_of_mem_set hz with hz | rfl
  · exact hb.2.2 z hz e
  · rcases hn b e with h1 | h1
    · exact hb.2.2 x hxm h1
    · have := hb.2.1
      omega
theorem Env.keep_put (K : Env w W T) (i : Nat) {g : Nat} {cs cs' : Array Value} {t : TypeId} (hx : T[i]? = some (.box g (.cells cs t (0, 0)))) {T' : List Thing} (hT : T' = T.set i (.box g (.cells cs' t (0, 0)))) : Keep w F W T (W.setRow g cs') T' := by
  subst hT
  have hgr : W.grownBy (W.setRow g cs') (some g) := ⟨rfl, rfl, rfl, by simp, fun k _ hk => setRow_other W g k _ (fun e => hk (by rw [e]))⟩
  exact K.keep_set hgr i hx (fun g' h => (Option.some.inj h).symm) (fun g' h => .inl h)
/-- fewer things: more blocks that are only read -/
theorem Env.keep_sub (_ : Env w W T) (h : ∀ x ∈ T', x ∈ T) : Keep w F W T W T' := ⟨Nat.le_refl _, fun _ hb => ⟨hb.1, hb.2.1, fun x hx => hb.2.2 x (h x hx)⟩, fun _ _ => rfl⟩
theorem Env.free (K : Env w W T) (i : Nat) {g : Nat} {cs : Array Value} {t : TypeId} (hx : T[i]? = some (.box g (.cells cs t (0, 0)))) (o : Nat) : W.frozen? ⟨g, o, none⟩ = false := by simp [World.frozen?, K.get i hx]
/-- blocks of a call's result are blocks that the walk only reads -/
theorem Env.fresh (K : Env w W T) (h : Below W.heap.size W W') : ∀ b, b < W'.heap.size → (Quiet w F W T b ∨ W.heap.size ≤ b) → Quiet w F W' T b := by
  rintro b hb (h1 | h1)
  · exact (K.keep_on h).rest b h1
  · exact ⟨.inr (Nat.le_trans K.hb.size h1), hb, fun x hx e => by have := ((K.hold x hx).lt e).2; omega⟩
theorem Quiet.start {b : Nat} (hb : F b) (hl : b < w.heap.size) : Quiet w F w [] b := ⟨.inl hb, hl, fun _ h => absurd h (by simp)⟩
variable {α : Type} {R : Row α}
theorem Env.list (hR : R.Ok) (K : Env w W T) (i : Nat) {g n c : Nat} {L : List α} (h : T[i]? = some (lst R (slv g n c) n L)) : TList R W (fun b => w.heap.size ≤ b) (some ⟨g, 0, none⟩) n c L := by
  obtain ⟨a', c', e, hl⟩ := owns_list (F := fun b => w.heap.size ≤ b) hR (K.own i h) (fun b hb => ((K.own i h).lt b hb).1)
  cases e
  exact hl
theorem grown_none (w : World) (r : Option Nat) : w.grownBy w r := e_grown w r
/-- the append of a list that lies in memory to one of the call's own -/
theorem Env.app_listW (hR : R.Ok) {o : Oper} {a : Act} {K' : Act → World → Prop} {Q : Exit → Act → World → Prop} (s x : Operand)
    (ho : o.op = .call { callee := .builtin .append, args := #[s, x], argTypes := #[R.st, R.st] }) (K : Env w W T) (i : Nat) {g m0 c0 : Nat} {M : List α} (hi : T[i]? = some (lst R (slv g m0 c0) m0 M))
    (hs : a.eval s = slv g m0 c0) {F : Nat → Prop} {sa : Option Addr} {m c : Nat} {L : List α} (hx : a.eval x = .slice sa m c) (hl : TList R W F sa m c L) (hm : m0 + m ≤ 1000000000000000) (hm2 : (m0 + m) * R.wide ≤ 140737488355328)
    (h : ∀ g' c' W', Env w W' (T.set i (lst R (slv g' (m0 + m) c') (m0 + m) (M ++ L))) → (∀ F, Keep w F W T W' (T.set i (lst R (slv g' (m0 + m) c') (m0 + m) (M ++ L)))) → K' (a.put o.dst (slv g' (m0 + m) c')) W') : o.wp Tryz.prog a W K' Q := by
  have hown := K.own i hi
  obtain ⟨i1, hi1, hy0, hy1, hy2⟩ := info_parts hR.info
  cases sa with
  | none =>
    obtain ⟨rfl, rfl, rfl⟩ := hl.none
    have hrun := run_append_owned_none (P := Tryz.prog) (w := W) w.heap.size R.st o.type R.et i1 R.sz hR.und hi1 _ m0 (R.all M) hown
    unfold Oper.wp
    simp [execOp, ho, resolve, invoke, builtin, hs, hx, hrun, Result.andThen]
    have h9 := h g c0 W (by
      rw [List.append_nil, Nat.add_zero]
      exact K.set (grown_none W none) i hi (fun g' e => by cases e) hown (fun g' e => .inl e)) (fun F => by
      rw [List.append_nil, Nat.add_zero]
      exact K.keep_set (grown_none W none) i hi (fun g' e => by cases e) (fun g' e => .inl e))
    rw [Nat.add_zero] at h9
    exact h9
  | some ad =>
    obtain ⟨v', w', hr, h2, h3, h4, h5⟩ := run_append_own_at (P := Tryz.prog) W w.heap.size R.st o.type R.et i1 _ R.sz R.wide hR.und hi1 hy0 hy1 hy2 hR.zs hR.pos _ m0 (R.all M) hown ad m c (R.all L) (by rw [all_length hR, hl.length]) hl.news (all_flat hR L) (by unfold maxLen; omega) hm2 K.hb.size
    have hv : ∃ g' c', v' = slv g' (m0 + m) c' := by
      rcases h2.2 with ⟨e, _⟩ | ⟨g', c', _, e, _⟩
      · exact absurd (h4.1 e).1 (by simp)
      · exact ⟨g', c', e⟩
    obtain ⟨g', c', rfl⟩ := hv
    rw [← all_append] at h2
    unfold Oper.wp execOp
    simp only [ho, resolve, invoke, builtin, Sem.run_bind, Sem.run_pure, Result.andThen_ok, List.map_toArray, List.map_cons, List.map_nil, hs, hx, hr]
    have hn : ∀ g9, (lst R (slv g' (m0 + m) c') (m0 + m) (M ++ L)).has g9 → (lst R (slv g m0 c0) m0 M).has g9 ∨ W.heap.size ≤ g9 := fun g9 e => by
      rcases h5 with h5 | h5
      · exact .inl (h5.symm.trans e)
      · right
        have := h5.symm.trans e
        have := Option.some.inj this
        omega
    exact h g' c' w' (K.set h3 i hi (fun g9 e => e) h2 hn) (fun F => K.keep_set h3 i hi (fun g9 e => e) hn)
theorem Env.app_list (hR : R.Ok) {o : Oper} {a : Act} {K' : Act → World → Prop} {Q : Exit → Act → World → Prop} (s x : Operand)
    (ho : o.op = .call { callee := .builtin .append, args := #[s, x], argTypes := #[R.st, R.st] }) (K : Env w W T) (i : Nat) {g m0 c0 : Nat} {M : List α} (hi : T[i]? = some (lst R (slv g m0 c0) m0 M))
    (hs : a.eval s = slv g m0 c0) {F : Nat → Prop} {sa : Option Addr} {m c : Nat} {L : List α} (hx : a.eval x = .slice sa m c) (hl : TList R W F sa m c L) (hm : m0 + m ≤ 1000000)
    (h : ∀ g' c' W', Env w W' (T.set i (lst R (slv g' (m0 + m) c') (m0 + m) (M ++ L))) → (∀ F, Keep w F W T W' (T.set i (lst R (slv g' (m0 + m) c') (m0 + m) (M ++ L)))) → K' (a.put o.dst (slv g' (m0 + m) c')) W') : o.wp Tryz.prog a W K' Q :=
  K.app_listW hR s x ho i hi hs hx hl (by omega) (Nat.le_trans (Nat.mul_le_mul hm hR.small) (by decide)) h
/-- the append of one element that lies in a box -/
theorem Env.app_one (hR : R.Ok) {o : Oper} {a : Act} {K' : Act → World → Prop} {Q : Exit → Act → World → Prop} (s x : Operand)
    (ho : o.op = .call { callee := .builtin .append, args := #[s, x], argTypes := #[R.st, R.st] }) (K : Env w W T) (i j : Nat) {v : Value} {m0 : Nat} {M : List α} (hi : T[i]? = some (lst R v m0 M))
    (hs : a.eval s = v) {g : Nat} {e : α} {fr : Nat × Nat} (hj : T[j]? = some (.box g (.cells (R.c e).toArray R.et fr))) (hx : a.eval x = slv g 1 1) (hm : m0 ≤ 900000)
    (h : ∀ g' c' W', Env w W' (T.set i (lst R (slv g' (m0 + 1) c') (m0 + 1) (M ++ [e]))) → (∀ F, Keep w F W T W' (T.set i (lst R (slv g' (m0 + 1) c') (m0 + 1) (M ++ [e])))) → K' (a.put o.dst (slv g' (m0 + 1) c')) W') : o.wp Tryz.prog a W K' Q :=
  wp_append_one hR s x ho w.heap.size v m0 M hs (K.own i hi) g e hx (K.get j hj) hm K.hb.size fun g' c' w' h1 h2 h3 => by
    have hn : ∀ g9, (lst R (slv g' (m0 + 1) c') (m0 + 1) (M ++ [e])).has g9 → (lst R v m0 M).has g9 ∨ W.heap.size ≤ g9 := fun g9 e9 => by
      obtain rfl := Option.some.inj e9
      rcases h3 with h3 | h3
      · exact .inl h3
      · exact .inr (by show W.heap.size ≤ g'; omega)
    exact h g' c' w' (K.set h2 i hi (fun g9 e9 => e9) h1 hn) (fun F => K.keep_set h2 i hi (fun g9 e9 => e9) hn)
/-- the same at a list of operations -/
theorem Env.apps_list (hR : R.Ok) {ops : Array Oper} {rest : List Oper} {o : Oper} {a : Act} {Q : Exit → Act → World → Prop} (hgd : o.guard = none) (s x : Operand)
    (ho : o.op = .call { callee := .builtin .append, args := #[s, x], argTypes := #[R.st, R.st] }) (K : Env w W T) (i : Nat) {g m0 c0 : Nat} {M : List α} (hi : T[i]? = some (lst R (slv g m0 c0) m0 M))
    (hs : a.eval s = slv g m0 c0) {F : Nat → Prop} {sa : Option Addr} {m c : Nat} {L : List α} (hx : a.eval x = .slice sa m c) (hl : TList R W F sa m c L) (hm : m0 + m ≤ 1000000)
    (h : ∀ g' c' W', Env w W' (T.set i (lst R (slv g' (m0 + m) c') (m0 + m) (M ++ L))) → (∀ F, Keep w F W T W' (T.set i (lst R (slv g' (m0 + m) c') (m0 + m) (M ++ L)))) → wpList Tryz.prog ops Q rest (a.put o.dst (slv g' (m0 + m) c')) W') : wpList Tryz.prog ops Q (o :: rest) a W :=
  wpList_plain hgd fun _ hK => K.app_list hR s x ho i hi hs hx hl hm fun g' c' W' h1 k1 => hK _ _ (h g' c' W' h1 k1)
theorem Env.apps_one (hR : R.Ok) {ops : Array Oper} {rest : List Oper} {o : Oper} {a : Act} {Q : Exit → Act → World → Prop} (hgd : o.guard = none) (s x : Operand)
    (ho : o.op = .call { callee := .builtin .append, args := #[s, x], argTypes := #[R.st, R.st] }) (K : Env w W T) (i j : Nat) {v : Value} {m0 : Nat} {M : List α} (hi : T[i]? = some (lst R v m0 M))
    (hs : a.eval s = v) {g : Nat} {e : α} {fr : Nat × Nat} (hj : T[j]? = some (.box g (.cells (R.c e).toArray R.et fr))) (hx : a.eval x = slv g 1 1) (hm : m0 ≤ 900000)
    (h : ∀ g' c' W', Env w W' (T.set i (lst R (slv g' (m0 + 1) c') (m0 + 1) (M ++ [e]))) → (∀ F, Keep w F W T W' (T.set i (lst R (slv g' (m0 + 1) c') (m0 + 1) (M ++ [e])))) → wpList Tryz.prog ops Q rest (a.put o.dst (slv g' (m0 + 1) c')) W') : wpList Tryz.prog ops Q (o :: rest) a W :=
  wpList_plain hgd fun _ hK => K.app_one hR s x ho i j hi hs hj hx hm fun g' c' W' h1 k1 => hK _ _ (h g' c' W' h1 k1)
theorem run_store_at {P : Program} {w : World} {g o : Nat} {ty t : TypeId} {v : Value} {cs : Array Value} (hg : w.heap[g]? = some (.cells cs t (0, 0))) (ho : o < cs.size) (hi : (P.info? ty).map (·.size) = some 1) (hv : v.cells = #[v]) (hv1 : v.oneCell' = true) :
    (storeVar ty ⟨g, o, none⟩ v).run P w = .ok () (w.setRow g (cs.setIfInBounds o v)) := by
  cases hq : P.info? ty with
  | none => simp [hq] at hi
  | some i =>
    have hs : i.size = 1 := by simpa [hq] using hi
    have hst := run_store P w ⟨g, o, none⟩ v .plain hv1
    rw [cell_of_row w g o _ _ _ hg, show w.frozen? ⟨g, o, none⟩ = false by simp [World.frozen?, hg], Array.getElem?_eq_getElem ho] at hst
    simp only [Bool.false_eq_true, if_false] at hst
    have ha : (⟨g, o, none⟩ : Addr).add 0 = ⟨g, o, none⟩ := by rw [Addr.add_lit, Nat.add_zero]
    rw [setCell_eq_setRow w g o cs t (0, 0) v hg] at hst
    simp [storeVar, sizeOf, typeInfo, hq, hv, hs, storeCells, ha, hst]
/-- one cell of a box is stored -/
theorem Env.store1 {o : Oper} {a : Act} {K' : Act → World → Prop} {Q : Exit → Act → World → Prop} (K : Env w W T) (i : Nat) {g : Nat} {cs : Array Value} {t : TypeId} (hi : T[i]? = some (.box g (.cells cs t (0, 0)))) (ty : TypeId) (x y : Operand) (hop : o.op = .store ty x y)
    (k : Nat) (v : Value) (hx : a.eval x = .pointer (some ⟨g, k, none⟩)) (hy : a.eval y = v) (ho : k < cs.size) (hinf : (Tryz.prog.info? ty).map (·.size) = some 1) (hv : v.cells = #[v]) (hv1 : v.oneCell' = true)
    (h : ∀ W', Env w W' (T.set i (.box g (.cells (cs.setIfInBounds k v) t (0, 0)))) → (∀ F, Keep w F W T W' (T.set i (.box g (.cells (cs.setIfInBounds k v) t (0, 0))))) → K' (a.put o.dst undef) W') : o.wp Tryz.prog a W K' Q := by
  unfold Oper.wp execOp
  simp only [hop, hx, hy, Instr.storeAt, Instr.sureAddr, Sem.run_bind, Sem.run_pure, Result.andThen_ok, run_store_at (v := v) (K.get i hi) ho hinf hv hv1]
  exact h _ (K.put i hi rfl) (fun _ => K.keep_put i hi rfl)
/-- an element of one cell is stored into a list of the walk's own -/
theorem Env.set1 (hR : R.Ok) (hs : R.sz = 1) (K : Env w W T) (i : Nat) {g n c : Nat} {L : List α} (h : T[i]? = some (lst R (slv g n c) n L)) {k : Nat} (hk : k < n) (e : α) {u : Value} (hu : R.c e = [u]) :
    Env w (W.setCell ⟨g, k, none⟩ u) (T.set i (lst R (slv g n c) n (L.set k e))) ∧ ∀ F, Keep w F W T (W.setCell ⟨g, k, none⟩ u) (T.set i (lst R (slv g n c) n (L.set k e))) := by
  have hown := K.own i h
  have h1 := own_set hR hown hk e
  rw [hs, Nat.mul_one, hu] at h1
  have h2 : (W.setCell ⟨g, k, none⟩ u).ownsRow w.heap.size R.et R.sz (slv g n c) n (R.all (L.set k e)) := by rw [hs]; exact h1
  obtain ⟨cur, hg⟩ : ∃ cur, W.heap[g]? = some (.cells cur R.et (0, 0)) := by
    rcases hown.2 with ⟨h9, _⟩ | ⟨g', cap, cur, hv, _, hg, _⟩
    · cases h9
    · cases hv
      exact ⟨cur, hg⟩
  have hgr : W.grownBy (W.setCell ⟨g, k, none⟩ u) (some g) := by
    rw [setCell_eq_setRow W g k cur _ _ u hg]
    exact ⟨rfl, rfl, rfl, by simp, fun j _ hj => setRow_other W g j _ (fun e => hj (by rw [e]))⟩
  exact ⟨K.set hgr i h (fun g' e => e) h2 (fun g' e => .inl e), fun _ => K.keep_set hgr i h (fun g' e => e) (fun g' e => .inl e)⟩
theorem Env.own1 (hR : R.Ok) (hs : R.sz = 1) (K : Env w W T) (i : Nat) {g n c : Nat} {L : List α} (h : T[i]? = some (lst R (slv g n c) n L)) {k : Nat} {e : α} (hk : L[k]? = some e) {u : Value} (hu : R.c e = [u]) : W.cell? ⟨g, k, none⟩ = some u ∧ W.frozen? ⟨g, k, none⟩ = false := by
  have h1 := own_cell hR (K.own i h) (j := k) (k := 0) (e := e) (u := u) hk (by rw [hu]; rfl)
  rwa [hs, Nat.mul_one, Nat.add_zero] at h1
/-- a list of n elements, all alike, in a new block -/
theorem Env.made (K : Env w W T) (e : α) (n : Nat) (hn : n ≤ maxLen) {cs : Array Value} (hc : cs.toList = R.all (List.replicate n e)) (hz : cs.size = n * R.sz) : Env w (W.alloc (.cells cs R.et)) (lst R (slv W.heap.size n n) n (List.replicate n e) :: T) :=
  K.cons ((Below.refl _ _).alloc (Nat.le_refl _) _) (show Thing.holds w.heap.size (W.alloc (.cells cs R.et)) (lst R (slv W.heap.size n n) n (List.replicate n e)) from by
    have := World.ownsRow_lit (base := w.heap.size) (e := R.et) (size := R.sz) W cs n K.hb.size hn hz
    rw [hc] at this
    exact this) (fun g hg => by obtain rfl := Option.some.inj hg; exact Nat.le_refl _)
theorem made_all (hs : R.sz = 1) (e : α) {u : Value} (hu : R.c e = [u]) (n : Nat) : (madeCells #[u] n).toList = R.all (List.replicate n e) ∧ (madeCells #[u] n).size = n * R.sz := by
  refine ⟨?_, by rw [hs, Nat.mul_one]; simp [madeCells]⟩
  have h1 : (madeCells #[u] n).toList = List.replicate n u := by
    apply List.ext_getElem?
    intro i
    by_cases hi : i < n
    · simp [madeCells, hi, Nat.mod_one]
    · simp [madeCells, hi, Nat.mod_one]
  rw [h1]
  induction n with
  | zero => rfl
  | succ n ih =>
    rw [List.replicate_succ, List.replicate_succ, all_cons, hu, ← ih (by
      apply List.ext_getElem?
      intro i
      by_cases hi : i < n
      · simp [madeCells, hi, Nat.mod_one]
      · simp [madeCells, hi])]
    rfl
end
end Go.Proofs.YtnmhnjjehglcfaaGreat.Env
namespace Go.Proofs.YtnmhnjjehglcfaaGreat.Rws
open Env Ents Go.RowKit
section
variable {α : Type} {R : Row α} {w W W' : World} {F : Nat → Prop} {T T' : List Thing} {a : Option Addr} {n c : Nat} {L : List α}
theorem TList.keep (h : TList R W (Quiet w F W T) a n c L) (k : Keep w F W T W' T') : TList R W' (Quiet w F W' T') a n c L := (h.on k.on').mono fun b _ hb => k.rest b hb
theorem TList.fewer (h : TList R W (Quiet w F W T) a n c L) (hs : ∀ y ∈ T', y ∈ T) : TList R W (Quiet w F W T') a n c L := h.mono fun _ _ hb => ⟨hb.1, hb.2.1, fun x hx => hb.2.2 x (hs x hx)⟩
theorem TList.result (K : Env w W T) (hb : Below W.heap.size W W') (h : TList R W' (fun b => Quiet w F W T b ∨ W.heap.size ≤ b) a n c L) : TList R W' (Quiet w F W' T) a n c L := h.mono fun b hl hb' => K.fresh hb b hl hb'
end
end Go.Proofs.YtnmhnjjehglcfaaGreat.Rws
