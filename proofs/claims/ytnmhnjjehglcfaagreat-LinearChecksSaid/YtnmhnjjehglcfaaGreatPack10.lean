/- Texts that belong together, part 10. -/
import Derived.Test.YtnmhnjjehglcfaaGreatPack9
import Derived.Deep.MidRow
import Derived.Laws.AppendOwn
import Derived.Laws.AppendOwnNone

/- The walk of the document's Relocate. -/
namespace Go.Proofs.YtnmhnjjehglcfaaGreat.Ents
open Go.RowKit Plan EntMath
theorem e_owns_cell {w : World} {B sz g n cap : Nat} {t : TypeId} {C : List Value} (h : w.ownsRow B t sz (.slice (some ⟨g, 0, none⟩) n cap) n C) (j : Nat) (u : Value) :
    (w.setCell ⟨g, j, none⟩ u).ownsRow B t sz (.slice (some ⟨g, 0, none⟩) n cap) n (C.set j u) := by
  obtain ⟨h1, h2⟩ := h
  rcases h2 with ⟨h, _⟩ | ⟨g', cap', cur, hv, hb, hg, k1, k2, k3, k4⟩
  · cases h
  · cases hv
    refine ⟨by rw [List.length_set]; exact h1, .inr ⟨g, cap, cur.setIfInBounds j u, rfl, hb, ?_, k1, k2, by simpa using k3, ?_⟩⟩
    · rw [setCell_eq_setRow w g j cur t (0, 0) u hg]
      exact setRow_heap w g cur _ t (0, 0) hg
    · rw [Array.toList_setIfInBounds, List.take_set, k4]
end Go.Proofs.YtnmhnjjehglcfaaGreat.Ents

/- The walks of the document's Drop and Same. -/
namespace Go.Proofs.YtnmhnjjehglcfaaGreat.Ents
open Go.RowKit Plan EntMath
/-- two lists of the call's own in different blocks -/
def Apart (v u : Value) : Prop := ∀ b, v.ownBlock = some b → u.ownBlock = some b → False
theorem Apart.symm {v u : Value} (h : Apart v u) : Apart u v := fun b h1 h2 => h b h2 h1
end Go.Proofs.YtnmhnjjehglcfaaGreat.Ents

/- The walk of the document's Same, for equal lists. -/
namespace Go.Proofs.YtnmhnjjehglcfaaGreat.Ents
open Go.RowKit Plan EntMath
end Go.Proofs.YtnmhnjjehglcfaaGreat.Ents

/- Lists of elements of any type (structs, numbers, strings) that lie in memory, in the blocks of a set, or that the call owns. -/
namespace Go.Proofs.YtnmhnjjehglcfaaGreat.Rws
open Go.RowKit Plan Ents
/-- an element's type, the list's type, the element's cells -/
structure Row (α : Type) where
  et : TypeId
  st : TypeId
  sz : Nat
  wide : Nat
  zero : Value
  c : α → List Value
structure Row.Ok {α : Type} (R : Row α) : Prop where
  len : ∀ e, (R.c e).length = R.sz
  flat : ∀ e, ∀ u ∈ R.c e, u.oneCell' = true
  pos : 0 < R.sz
  info : (Tryz.prog.info? R.et).map (fun i => (i.zero, i.size, i.bytes)) = some (some R.zero, R.sz, R.wide)
  zs : R.zero.cells.size = R.sz
  und : Tryz.prog.underlying R.st = some (.slice R.et)
  small : R.wide ≤ 1000
def Row.all {α : Type} (R : Row α) (L : List α) : List Value := L.flatMap R.c
section
variable {α : Type} {R : Row α}
theorem all_nil : R.all [] = [] := rfl
theorem all_append (L M : List α) : R.all (L ++ M) = R.all L ++ R.all M := by simp [Row.all]
theorem all_cons (e : α) (L : List α) : R.all (e :: L) = R.c e ++ R.all L := rfl
theorem all_one (e : α) : R.all [e] = R.c e := by simp [Row.all]
theorem all_length (hR : R.Ok) (L : List α) : (R.all L).length = L.length * R.sz := by
  induction L with
  | nil => simp [Row.all]
  | cons e L ih => rw [all_cons, List.length_append, ih, List.length_cons, hR.len, Nat.succ_mul]; omega
theorem all_get (hR : R.Ok) {L : List α} {i : Nat} {e : α} (h : L[i]? = some e) (k : Nat) (hk : k < R.sz) : (R.all L)[i * R.sz + k]? = (R.c e)[k]? := by
  induction L generalizing i with
  | nil => cases h
  | cons x L ih =>
    rw [all_cons]
    cases i with
    | zero =>
      obtain rfl := Option.some.inj h
      rw [Nat.zero_mul, Nat.zero_add, List.getElem?_append_left (by rw [hR.len]; exact hk)]
    | succ i =>
      rw [List.getElem?_append_right (by rw [hR.len, Nat.succ_mul]; omega), hR.len]
      have := ih (i := i) h
      rw [← this]
      congr 1
      rw [Nat.succ_mul]
      omega
theorem all_flat (hR : R.Ok) (L : List α) : ∀ u ∈ R.all L, u.oneCell' = true := by
  intro u hu
  obtain ⟨e, _, he⟩ := List.mem_flatMap.1 hu
  exact hR.flat e u he
theorem all_take (hR : R.Ok) (L : List α) (k : Nat) : R.all (L.take k) = (R.all L).take (k * R.sz) := by
  induction L generalizing k with
  | nil => simp [Row.all]
  | cons e L ih =>
    cases k with
    | zero => simp [Row.all]
    | succ k =>
      have hl := hR.len e
      rw [List.take_succ_cons, all_cons, all_cons, ih, List.take_append, List.take_of_length_le (l := R.c e) (by rw [Nat.succ_mul]; omega), hl, show (k + 1) * R.sz - R.sz = k * R.sz by rw [Nat.succ_mul]; omega]
theorem all_drop (hR : R.Ok) (L : List α) (k : Nat) : R.all (L.drop k) = (R.all L).drop (k * R.sz) := by
  induction L generalizing k with
  | nil => simp [Row.all]
  | cons e L ih =>
    cases k with
    | zero => simp [Row.all]
    | succ k =>
      have hl := hR.len e
      rw [List.drop_succ_cons, all_cons, ih, List.drop_append, List.drop_of_length_le (l := R.c e) (by rw [Nat.succ_mul]; omega), hl, List.nil_append, show (k + 1) * R.sz - R.sz = k * R.sz by rw [Nat.succ_mul]; omega]
/-- a list in memory -/
def TList (R : Row α) (w : World) (F : Nat → Prop) (a : Option Addr) (n c : Nat) (L : List α) : Prop :=
  (True ∧ n = 0 ∧ c = 0 ∧ L = []) ∨
  ∃ x, a = some x ∧ n ≤ c ∧ c ≤ maxLen ∧ L.length = n ∧ x.block < w.heap.size ∧ F x.block ∧ ∀ j u, (R.all L)[j]? = some u → w.cell? (x.add j) = some u
theorem TList.nil (w : World) (F : Nat → Prop) : TList R w F none 0 0 [] := .inl ⟨trivial, rfl, rfl, rfl⟩
variable {w w' : World} {F G : Nat → Prop} {a : Option Addr} {n c : Nat} {L : List α}
theorem TList.length (h : TList R w F a n c L) : L.length = n := by
  rcases h with ⟨_, rfl, _, rfl⟩ | ⟨x, _, _, _, h4, _⟩
  · rfl
  · exact h4
theorem TList.cap (h : TList R w F a n c L) : n ≤ c ∧ c ≤ maxLen := by
  rcases h with ⟨_, rfl, rfl, rfl⟩ | ⟨x, _, h2, h3, _⟩
  · exact ⟨Nat.le_refl _, Nat.zero_le _⟩
  · exact ⟨h2, h3⟩
theorem TList.on (h : TList R w F a n c L) (hw : Same F w w') : TList R w' F a n c L := by
  rcases h with h | ⟨x, h1, h2, h3, h4, h5, h6, h7⟩
  · exact .inl h
  · exact .inr ⟨x, h1, h2, h3, h4, Nat.lt_of_lt_of_le h5 hw.1, h6, fun j u hu => hw.cell (by rw [ent_add_block]; exact h6) (h7 j u hu)⟩
theorem TList.mono (h : TList R w F a n c L) (hFG : ∀ b, b < w.heap.size → F b → G b) : TList R w G a n c L := by
  rcases h with h | ⟨x, h1, h2, h3, h4, h5, h6, h7⟩
  · exact .inl h
  · exact .inr ⟨x, h1, h2, h3, h4, h5, hFG _ h5 h6, h7⟩
theorem TList.cut (h : TList R w F a n c L) : TList R w (fun b => F b ∧ b < w.heap.size) a n c L := h.mono fun _ hb hf => ⟨hf, hb⟩
theorem TList.low (h : TList R w F a n c L) : TList R w (fun b => b < w.heap.size) a n c L := h.mono fun _ hb _ => hb
theorem TList.same (h : TList R w F a n c L) (hb : Below w.heap.size w w') : TList R w' (fun b => b < w.heap.size) a n c L := h.low.on (Same.low hb)
theorem TList.at' (hR : R.Ok) (h : TList R w F a n c L) (i : Nat) (hi : i < n) : ∃ x e, a = some x ∧ L[i]? = some e ∧ ∀ k u, (R.c e)[k]? = some u → w.cell? (x.add (i * R.sz + k)) = some u := by
  have hl := h.length
  rcases h with ⟨_, rfl, _, _⟩ | ⟨x, h1, _, _, _, _, _, h7⟩
  · omega
  · have he : L[i]? = some (L[i]'(by omega)) := List.getElem?_eq_getElem _
    refine ⟨x, _, h1, he, fun k u hu => h7 _ u ?_⟩
    have hk : k < R.sz := by have := (List.getElem?_eq_some_iff.1 hu).1; rwa [hR.len] at this
    rw [all_get hR he k hk, hu]
theorem TList.some' (h : TList R w F a n c L) (hn : 0 < n) : ∃ x, a = some x ∧ x.block < w.heap.size ∧ F x.block ∧ ∀ j u, (R.all L)[j]? = some u → w.cell? (x.add j) = some u := by
  rcases h with ⟨_, rfl, _, _⟩ | ⟨x, h1, _, _, _, h5, h6, h7⟩
  · omega
  · exact ⟨x, h1, h5, h6, h7⟩
theorem TList.none (h : TList R w F none n c L) : n = 0 ∧ c = 0 ∧ L = [] := by
  rcases h with ⟨_, h⟩ | ⟨x, h1, _⟩
  · exact h
  · cases h1
theorem TList.news {x : Addr} (h : TList R w F (some x) n c L) : ∀ j u, (R.all L)[j]? = some u → w.cell? (x.add j) = some u := by
  rcases h with ⟨_, _, _, rfl⟩ | ⟨y, h1, _, _, _, _, _, h7⟩
  · intro j u hu
    simp [Row.all] at hu
  · obtain rfl := Option.some.inj h1
    exact h7
/-- the first elements of a list; those behind them -/
theorem TList.front (hR : R.Ok) (h : TList R w F a n c L) (k : Nat) (hk : k ≤ n) : TList R w F a k c (L.take k) := by
  have hl := h.length
  rcases h with ⟨_, rfl, rfl, rfl⟩ | ⟨x, h1, h2, h3, h4, h5, h6, h7⟩
  · obtain rfl : k = 0 := by omega
    exact .inl ⟨trivial, rfl, rfl, by simp⟩
  · refine .inr ⟨x, h1, by omega, h3, by rw [List.length_take]; omega, h5, h6, fun j u hu => h7 j u ?_⟩
    rw [all_take hR, List.getElem?_take] at hu
    split at hu
    · exact hu
    · cases hu
theorem TList.back (hR : R.Ok) {x : Addr} (h : TList R w F (some x) n c L) (k : Nat) (hk : k ≤ n) (hx : 0 < n) : TList R w F (some (x.add (k * R.sz))) (n - k) (c - k) (L.drop k) := by
  have hl := h.length
  rcases h with ⟨_, rfl, rfl, rfl⟩ | ⟨y, h1, h2, h3, h4, h5, h6, h7⟩
  · omega
  · obtain rfl := Option.some.inj h1
    refine .inr ⟨_, rfl, by omega, by omega, by rw [List.length_drop]; omega, by rw [ent_add_block]; exact h5, by rw [ent_add_block]; exact h6, fun j u hu => ?_⟩
    rw [all_drop hR, List.getElem?_drop] at hu
    rw [Addr.add_add]
    exact h7 _ u hu
/-- a list that the call owns is one that is read -/
theorem owns_list (hR : R.Ok) {B : Nat} {v : Value} (h : w.ownsRow B R.et R.sz v n (R.all L)) (hF : ∀ b, v.ownBlock = some b → F b) : ∃ a c, v = .slice a n c ∧ TList R w F a n c L := by
  have hp := hR.pos
  have hl : L.length = n := by have h1 := h.1; rw [all_length hR] at h1; exact Nat.eq_of_mul_eq_mul_right hp h1
  rcases h.2 with ⟨rfl, rfl⟩ | ⟨g, cap, cur, rfl, hb, hg, h1, h2, h3, h4⟩
  · obtain rfl : L = [] := List.length_eq_zero_iff.1 hl
    exact ⟨none, 0, rfl, .inl ⟨trivial, rfl, rfl, rfl⟩⟩
  · exact ⟨_, _, rfl, .inr ⟨_, rfl, h1, h2, hl, (Array.getElem?_eq_some_iff.1 hg).1, hF g rfl, fun j u hu => h.cells (g := g) rfl j u hu⟩⟩
theorem owns_len (hR : R.Ok) {B : Nat} {v : Value} (h : w.ownsRow B R.et R.sz v n (R.all L)) : L.length = n := by
  have h1 := h.1
  rw [all_length hR] at h1
  exact Nat.eq_of_mul_eq_mul_right hR.pos h1
theorem owns_some {B : Nat} {v : Value} {xs : List Value} (h : w.ownsRow B R.et R.sz v n xs) (hn : 0 < n) : ∃ g c, v = .slice (some ⟨g, 0, none⟩) n c ∧ B ≤ g ∧ g < w.heap.size := by
  rcases h.2 with ⟨_, h0⟩ | ⟨g, cap, cur, rfl, hb, hg, _⟩
  · omega
  · exact ⟨g, cap, rfl, hb, (Array.getElem?_eq_some_iff.1 hg).1⟩
/-- the cell of an element of a list of the call's own -/
theorem own_cell (hR : R.Ok) {B g : Nat} {j k : Nat} {e : α} {u : Value} (h : w.ownsRow B R.et R.sz (.slice (some ⟨g, 0, none⟩) n c) n (R.all L)) (hj : L[j]? = some e) (hk : (R.c e)[k]? = some u) : w.cell? ⟨g, j * R.sz + k, none⟩ = some u ∧ w.frozen? ⟨g, j * R.sz + k, none⟩ = false := by
  have hk' : k < R.sz := by have := (List.getElem?_eq_some_iff.1 hk).1; rwa [hR.len] at this
  constructor
  · have := h.cells (g := g) rfl (j * R.sz + k) u (by rw [all_get hR hj k hk', hk])
    rw [Addr.add_lit, Nat.zero_add] at this
    exact this
  · rcases h.2 with ⟨h, _⟩ | ⟨g', cap', cur, hv, hb, hg, _⟩
    · cases h
    · cases hv
      simp [World.frozen?, hg]
/-- a list without elements in a block of its own; one with none -/
theorem own_empty (R : Row α) (w : World) {H : Nat} (hH : w.heap.size = H) : (w.alloc (.cells #[] R.et)).ownsRow H R.et R.sz (.slice (some ⟨H, 0, none⟩) 0 0) 0 (R.all []) := by
  subst hH
  exact World.ownsRow_made (base := w.heap.size) (e := R.et) (size := R.sz) w #[] 0 (Nat.le_refl _) (by unfold maxLen; decide) (by simp)
theorem own_none (R : Row α) (w : World) (B : Nat) : w.ownsRow B R.et R.sz (.slice none 0 0) 0 (R.all []) := World.ownsRow_nil _ _ _ _
/-- an element in a block of its own -/
theorem list_one {g : Nat} {e : α} {fr : Nat × Nat} (h : w.heap[g]? = some (.cells (R.c e).toArray R.et fr)) : ∀ j u, (R.all [e])[j]? = some u → w.cell? ((⟨g, 0, none⟩ : Addr).add j) = some u := by
  intro j u hu
  rw [all_one] at hu
  rw [Addr.add_lit, Nat.zero_add]
  exact (cell_of_row w g j _ _ _ h).trans (by rw [List.getElem?_toArray]; exact hu)
theorem wp_append_one (hR : R.Ok) {o : Oper} {a : Act} {K : Act → World → Prop} {Q : Exit → Act → World → Prop} (s x : Operand)
    (ho : o.op = .call { callee := .builtin .append, args := #[s, x], argTypes := #[R.st, R.st] })
    (base : Nat) (v : Value) (m0 : Nat) (M : List α) (hs : a.eval s = v) (hown : w.ownsRow base R.et R.sz v m0 (R.all M)) (g : Nat) (e : α) {fr : Nat × Nat} (hx : a.eval x = .slice (some ⟨g, 0, none⟩) 1 1) (hg : w.heap[g]? = some (.cells (R.c e).toArray R.et fr)) (hm : m0 ≤ 900000) (hbase : base ≤ w.heap.size)
    (h : ∀ g' c' w', w'.ownsRow base R.et R.sz (.slice (some ⟨g', 0, none⟩) (m0 + 1) c') (m0 + 1) (R.all (M ++ [e])) → w.grownBy w' v.ownBlock → (v.ownBlock = some g' ∨ g' = w.heap.size) → K (a.put o.dst (.slice (some ⟨g', 0, none⟩) (m0 + 1) c')) w') : o.wp Tryz.prog a w K Q := by
  obtain ⟨i1, hi1, hy0, hy1, hy2⟩ := info_parts hR.info
  have hsm := hR.small
  refine wp_append_lies w s x R.st ho base R.et i1 _ R.sz R.wide hR.und hi1 hy0 hy1 hy2 hR.zs hR.pos v m0 (R.all M) hs hown ⟨g, 0, none⟩ 1 1 (R.all [e]) hx (by rw [all_one, hR.len, Nat.one_mul]) (list_one hg) (all_flat hR _) (by decide) (by unfold maxLen; omega) (Nat.le_trans (Nat.mul_le_mul (show m0 + 1 ≤ 1000000 by omega) hsm) (by decide)) hbase _ rfl ?_
  intro g' c' w' h1 h2 h3 _
  rw [← all_append] at h1
  exact h g' c' w' h1 h2 h3
/-- where a list that the call owns grows, all else stays -/
theorem TList.grown {g : Option Nat} (h : TList R w F a n c L) (hg : w.grownBy w' g) (hF : ∀ b, g = some b → ¬ F b) : TList R w' F a n c L := by
  refine h.on ⟨hg.size, fun b hb hlt => hg.block b hlt (fun e => hF b e.symm hb)⟩
/-- cells put one after the other -/
def spliced (xs : List Value) : Nat → List Value → List Value
  | _, [] => xs
  | o, v :: r => spliced (xs.set o v) (o + 1) r
theorem spliced_cons (x : Value) (xs : List Value) (o : Nat) (vs : List Value) : spliced (x :: xs) (o + 1) vs = x :: spliced xs o vs := by
  induction vs generalizing xs o with
  | nil => rfl
  | cons v r ih => simp only [spliced, List.set_cons_succ]; rw [ih]
theorem spliced_front (xs ys vs : List Value) (o : Nat) : spliced (xs ++ ys) (xs.length + o) vs = xs ++ spliced ys o vs := by
  induction xs with
  | nil => simp
  | cons x xs ih => rw [List.cons_append, List.length_cons, show xs.length + 1 + o = xs.length + o + 1 by omega, spliced_cons, ih, List.cons_append]
theorem spliced_zero (xs ys vs : List Value) (h : xs.length = vs.length) : spliced (xs ++ ys) 0 vs = vs ++ ys := by
  induction vs generalizing xs with
  | nil => rw [List.length_eq_zero_iff.1 h]; rfl
  | cons v r ih =>
    match xs, h with
    | x :: xs, h =>
      simp only [List.cons_append, spliced, List.set_cons_zero]
      rw [spliced_cons, ih xs (by simpa using h)]
theorem all_set (hR : R.Ok) {k : Nat} (h : k < L.length) (e : α) : R.all (L.set k e) = spliced (R.all L) (k * R.sz) (R.c e) := by
  induction L generalizing k with
  | nil => cases h
  | cons x L ih =>
    cases k with
    | zero => rw [List.set_cons_zero, all_cons, all_cons, Nat.zero_mul, spliced_zero _ _ _ (by rw [hR.len, hR.len])]
    | succ k =>
      rw [List.set_cons_succ, all_cons, all_cons, ih (Nat.lt_of_succ_lt_succ h), show (k + 1) * R.sz = (R.c x).length + k * R.sz by rw [hR.len, Nat.succ_mul]; omega, spliced_front]
theorem owns_spliced {B sz g n cap : Nat} {t : TypeId} (vs : List Value) : ∀ {w : World} (o : Nat) {C : List Value}, w.ownsRow B t sz (.slice (some ⟨g, 0, none⟩) n cap) n C → (w.setCells g o vs).ownsRow B t sz (.slice (some ⟨g, 0, none⟩) n cap) n (spliced C o vs) := by
  induction vs with
  | nil => intro w o C h; exact h
  | cons v r ih => intro w o C h; exact ih (o + 1) (e_owns_cell h o v)
/-- the store of an element into a list of the call's own -/
theorem own_set (hR : R.Ok) {B g k : Nat} (h : w.ownsRow B R.et R.sz (.slice (some ⟨g, 0, none⟩) n c) n (R.all L)) (hk : k < n) (e : α) :
    (w.setCells g (k * R.sz) (R.c e)).ownsRow B R.et R.sz (.slice (some ⟨g, 0, none⟩) n c) n (R.all (L.set k e)) := by
  have hl := owns_len hR h
  rw [all_set hR (by omega)]
  exact owns_spliced _ _ h
theorem own_there (hR : R.Ok) {B g k : Nat} (h : w.ownsRow B R.et R.sz (.slice (some ⟨g, 0, none⟩) n c) n (R.all L)) (hk : k < n) : w.there g (k * R.sz) R.sz := by
  intro j hj
  obtain ⟨e, he⟩ : ∃ e, L[k]? = some e := ⟨_, List.getElem?_eq_getElem (by have := owns_len hR h; omega)⟩
  obtain ⟨u, hu⟩ : ∃ u, (R.c e)[j]? = some u := ⟨_, List.getElem?_eq_getElem (by rw [hR.len]; exact hj)⟩
  obtain ⟨h1, h2⟩ := own_cell hR h he hu
  exact ⟨by rw [h1]; rfl, h2⟩
theorem below_setCells {B g : Nat} {w0 : World} (hg : B ≤ g) : ∀ (vs : List Value) (o : Nat) {w' : World}, Below B w0 w' → Below B w0 (w'.setCells g o vs)
  | [], _, _, h => h
  | v :: r, o, _, h => below_setCells hg r (o + 1) (h.setCell hg v)
theorem Same.cells {g : Nat} (hr : ¬ F g) : ∀ (vs : List Value) (o : Nat) (w' : World), Same F w' (w'.setCells g o vs)
  | [], _, w' => Same.refl F w'
  | v :: r, o, _ => (Same.setCell (p := ⟨g, o, none⟩) hr v).trans (Same.cells hr r (o + 1) _)
/-- the index of a list and the store of a whole element there -/
theorem idx_store_row (hR : R.Ok) {ops : Array Oper} {rest : List Oper} {a : Act} {Q : Exit → Act → World → Prop} (d : Tmp) (s i y : Operand) {t1 t' : TypeId} {pos1 pos : String} {after1 after : Array Edge}
    (g o : Nat) (e : α) (hv : (execOp a.eval ⟨some d, .indexAddr R.st s i, t1, pos1, after1, none⟩).run Tryz.prog w = .ok (.value (.pointer (some ⟨g, o, none⟩))) w)
    (hx : (a.put (some d) (.pointer (some ⟨g, o, none⟩))).eval (.tmp d) = .pointer (some ⟨g, o, none⟩)) (hy : (a.put (some d) (.pointer (some ⟨g, o, none⟩))).eval y = .agg (R.c e).toArray) (ht : w.there g o R.sz)
    (h : ∀ w', w' = w.setCells g o (R.c e) → wpList Tryz.prog ops Q rest ((a.put (some d) (.pointer (some ⟨g, o, none⟩))).put none undef) w') :
    wpList Tryz.prog ops Q (⟨some d, .indexAddr R.st s i, t1, pos1, after1, none⟩ :: ⟨none, .store R.et (.tmp d) y, t', pos, after, none⟩ :: rest) a w :=
  wpList_plain rfl fun _ hK => by
    unfold Oper.wp
    rw [hv]
    refine hK _ _ (wpList_store_mid rfl R.et (.tmp d) y rfl g o (R.c e).toArray hx hy (by rw [List.size_toArray, hR.len]; exact ht) ?_ (all_oneCell_toArray (hR.flat e)) (h _ rfl))
    rw [List.size_toArray, hR.len]
    have := hR.info
    cases hq : Tryz.prog.info? R.et with
    | none => rw [hq] at this; cases this
    | some i =>
      rw [hq] at this
      simp only [Option.map_some, Option.some.injEq, Prod.mk.injEq] at this ⊢
      exact this.2.1
end
end Go.Proofs.YtnmhnjjehglcfaaGreat.Rws
