/- Texts that belong together, part 9. -/
import Derived.Test.YtpkogdpgchibdaaPack8
import Derived.Deep.MidRow
import Derived.Laws.AppendOwn
import Derived.Laws.AppendOwnNone
import Derived.Deep.OwnRows

/- Lists of elements of any type (structs, numbers, strings) that lie in memory, in the blocks of a set, or that the call owns. -/
namespace Go.Proofs.Ytpkogdpgchibdaa.Rws
open Go.RowKit Plan Ents
/-- an element's type, the list's type, the element's cells -/
structure Row (α : Type) where
  et : TypeId
  st : TypeId
  sz : Nat
  wide : Nat
  zero : Value
  c : α → List Value
structure Row.Ok {α : Type} (R : Row α) : Prop where
  len : ∀ e, (R.c e).length = R.sz
  flat : ∀ e, ∀ u ∈ R.c e, u.oneCell' = true
  pos : 0 < R.sz
  info : (Try.prog.info? R.et).map (fun i => (i.zero, i.size, i.bytes)) = some (some R.zero, R.sz, R.wide)
  zs : R.zero.cells.size = R.sz
  und : Try.prog.underlying R.st = some (.slice R.et)
  small : R.wide ≤ 1000
def Row.all {α : Type} (R : Row α) (L : List α) : List Value := L.flatMap R.c
section
variable {α : Type} {R : Row α}
theorem all_nil : R.all [] = [] := rfl
theorem all_append (L M : List α) : R.all (L ++ M) = R.all L ++ R.all M := by simp [Row.all]
theorem all_cons (e : α) (L : List α) : R.all (e :: L) = R.c e ++ R.all L := rfl
theorem all_one (e : α) : R.all [e] = R.c e := by simp [Row.all]
theorem all_length (hR : R.Ok) (L : List α) : (R.all L).length = L.length * R.sz := by
  induction L with
  | nil => simp [Row.all]
  | cons e L ih => rw [all_cons, List.length_append, ih, List.length_cons, hR.len, Nat.succ_mul]; omega
theorem all_get (hR : R.Ok) {L : List α} {i : Nat} {e : α} (h : L[i]? = some e) (k : Nat) (hk : k < R.sz) : (R.all L)[i * R.sz + k]? = (R.c e)[k]? := by
  induction L generalizing i with
  | nil => cases h
  | cons x L ih =>
    rw [all_cons]
    cases i with
    | zero =>
      obtain rfl := Option.some.inj h
      rw [Nat.zero_mul, Nat.zero_add, List.getElem?_append_left (by rw [hR.len]; exact hk)]
    | succ i =>
      rw [List.getElem?_append_right (by rw [hR.len, Nat.succ_mul]; omega), hR.len]
      have := ih (i := i) h
      rw [← this]
      congr 1
      rw [Nat.succ_mul]
      omega
theorem all_flat (hR : R.Ok) (L : List α) : ∀ u ∈ R.all L, u.oneCell' = true := by
  intro u hu
  obtain ⟨e, _, he⟩ := List.mem_flatMap.1 hu
  exact hR.flat e u he
theorem all_take (hR : R.Ok) (L : List α) (k : Nat) : R.all (L.take k) = (R.all L).take (k * R.sz) := by
  induction L generalizing k with
  | nil => simp [Row.all]
  | cons e L ih =>
    cases k with
    | zero => simp [Row.all]
    | succ k =>
      have hl := hR.len e
      rw [List.take_succ_cons, all_cons, all_cons, ih, List.take_append, List.take_of_length_le (l := R.c e) (by rw [Nat.succ_mul]; omega), hl, show (k + 1) * R.sz - R.sz = k * R.sz by rw [Nat.succ_mul]; omega]
theorem all_drop (hR : R.Ok) (L : List α) (k : Nat) : R.all (L.drop k) = (R.all L).drop (k * R.sz) := by
  induction L generalizing k with
  | nil => simp [Row.all]
  | cons e L ih =>
    cases k with
    | zero => simp [Row.all]
    | succ k =>
      have hl := hR.len e
      rw [List.drop_succ_cons, all_cons, ih, List.drop_append, List.drop_of_length_le (l := R.c e) (by rw [Nat.succ_mul]; omega), hl, List.nil_append, show (k + 1) * R.sz - R.sz = k * R.sz by rw [Nat.succ_mul]; omega]
/-- a list in memory -/
def TList (R : Row α) (w : World) (F : Nat → Prop) (a : Option Addr) (n c : Nat) (L : List α) : Prop :=
  (True ∧ n = 0 ∧ c = 0 ∧ L = []) ∨
  ∃ x, a = some x ∧ n ≤ c ∧ c ≤ maxLen ∧ L.length = n ∧ x.block < w.heap.size ∧ F x.block ∧ ∀ j u, (R.all L)[j]? = some u → w.cell? (x.add j) = some u
theorem TList.nil (w : World) (F : Nat → Prop) : TList R w F none 0 0 [] := .inl ⟨trivial, rfl, rfl, rfl⟩
variable {w w' : World} {F G : Nat → Prop} {a : Option Addr} {n c : Nat} {L : List α}
theorem TList.length (h : TList R w F a n c L) : L.length = n := by
  rcases h with ⟨_, rfl, _, rfl⟩ | ⟨x, _, _, _, h4, _⟩
  · rfl
  · exact h4
theorem TList.cap (h : TList R w F a n c L) : n ≤ c ∧ c ≤ maxLen := by
  rcases h with ⟨_, rfl, rfl, rfl⟩ | ⟨x, _, h2, h3, _⟩
  · exact ⟨Nat.le_refl _, Nat.zero_le _⟩
  · exact ⟨h2, h3⟩
theorem TList.on (h : TList R w F a n c L) (hw : Same F w w') : TList R w' F a n c L := by
  rcases h with h | ⟨x, h1, h2, h3, h4, h5, h6, h7⟩
  · exact .inl h
  · exact .inr ⟨x, h1, h2, h3, h4, Nat.lt_of_lt_of_le h5 hw.1, h6, fun j u hu => hw.cell (by rw [ent_add_block]; exact h6) (h7 j u hu)⟩
theorem TList.mono (h : TList R w F a n c L) (hFG : ∀ b, b < w.heap.size → F b → G b) : TList R w G a n c L := by
  rcases h with h | ⟨x, h1, h2, h3, h4, h5, h6, h7⟩
  · exact .inl h
  · exact .inr ⟨x, h1, h2, h3, h4, h5, hFG _ h5 h6, h7⟩
theorem TList.cut (h : TList R w F a n c L) : TList R w (fun b => F b ∧ b < w.heap.size) a n c L := h.mono fun _ hb hf => ⟨hf, hb⟩
theorem TList.low (h : TList R w F a n c L) : TList R w (fun b => b < w.heap.size) a n c L := h.mono fun _ hb _ => hb
theorem TList.same (h : TList R w F a n c L) (hb : Below w.heap.size w w') : TList R w' (fun b => b < w.heap.size) a n c L := h.low.on (Same.low hb)
theorem TList.at' (hR : R.Ok) (h : TList R w F a n c L) (i : Nat) (hi : i < n) : ∃ x e, a = some x ∧ L[i]? = some e ∧ ∀ k u, (R.c e)[k]? = some u → w.cell? (x.add (i * R.sz + k)) = some u := by
  have hl := h.length
  rcases h with ⟨_, rfl, _, _⟩ | ⟨x, h1, _, _, _, _, _, h7⟩
  · omega
  · have he : L[i]? = some (L[i]'(by omega)) := List.getElem?_eq_getElem _
    refine ⟨x, _, h1, he, fun k u hu => h7 _ u ?_⟩
    have hk : k < R.sz := by have := (List.getElem?_eq_some_iff.1 hu).1; rwa [hR.len] at this
    rw [all_get hR he k hk, hu]
theorem TList.some' (h : TList R w F a n c L) (hn : 0 < n) : ∃ x, a = some x ∧ x.block < w.heap.size ∧ F x.block ∧ ∀ j u, (R.all L)[j]? = some u → w.cell? (x.add j) = some u := by
  rcases h with ⟨_, rfl, _, _⟩ | ⟨x, h1, _, _, _, h5, h6, h7⟩
  · omega
  · exact ⟨x, h1, h5, h6, h7⟩
theorem TList.none (h : TList R w F none n c L) : n = 0 ∧ c = 0 ∧ L = [] := by
  rcases h with ⟨_, h⟩ | ⟨x, h1, _⟩
  · exact h
  · cases h1
theorem TList.news {x : Addr} (h : TList R w F (some x) n c L) : ∀ j u, (R.all L)[j]? = some u → w.cell? (x.add j) = some u := by
  rcases h with ⟨_, _, _, rfl⟩ | ⟨y, h1, _, _, _, _, _, h7⟩
  · intro j u hu
    simp [Row.all] at hu
  · obtain rfl := Option.some.inj h1
    exact h7
/-- the first elements of a list; those behind them -/
theorem TList.front (hR : R.Ok) (h : TList R w F a n c L) (k : Nat) (hk : k ≤ n) : TList R w F a k c (L.take k) := by
  have hl := h.length
  rcases h with ⟨_, rfl, rfl, rfl⟩ | ⟨x, h1, h2, h3, h4, h5, h6, h7⟩
  · obtain rfl : k = 0 := by omega
    exact .inl ⟨trivial, rfl, rfl, by simp⟩
  · refine .inr ⟨x, h1, by omega, h3, by rw [List.length_take]; omega, h5, h6, fun j u hu => h7 j u ?_⟩
    rw [all_take hR, List.getElem?_take] at hu
    split at hu
    · exact hu
    · cases hu
theorem TList.back (hR : R.Ok) {x : Addr} (h : TList R w F (some x) n c L) (k : Nat) (hk : k ≤ n) (hx : 0 < n) : TList R w F (some (x.add (k * R.sz))) (n - k) (c - k) (L.drop k) := by
  have hl := h.length
  rcases h with ⟨_, rfl, rfl, rfl⟩ | ⟨y, h1, h2, h3, h4, h5, h6, h7⟩
  · omega
  · obtain rfl := Option.some.inj h1
    refine .inr ⟨_, rfl, by omega, by omega, by rw [List.length_drop]; omega, by rw [ent_add_block]; exact h5, by rw [ent_add_block]; exact h6, fun j u hu => ?_⟩
    rw [all_drop hR, List.getElem?_drop] at hu
    rw [Addr.add_add]
    exact h7 _ u hu
/-- a list that the call owns is one that is read -/
theorem owns_list (hR : R.Ok) {B : Nat} {v : Value} (h : w.ownsRow B R.et R.sz v n (R.all L)) (hF : ∀ b, v.ownBlock = some b → F b) : ∃ a c, v = .slice a n c ∧ TList R w F a n c L := by
  have hp := hR.pos
  have hl : L.length = n := by have h1 := h.1; rw [all_length hR] at h1; exact Nat.eq_of_mul_eq_mul_right hp h1
  rcases h.2 with ⟨rfl, rfl⟩ | ⟨g, cap, cur, rfl, hb, hg, h1, h2, h3, h4⟩
  · obtain rfl : L = [] := List.length_eq_zero_iff.1 hl
    exact ⟨none, 0, rfl, .inl ⟨trivial, rfl, rfl, rfl⟩⟩
  · exact ⟨_, _, rfl, .inr ⟨_, rfl, h1, h2, hl, (Array.getElem?_eq_some_iff.1 hg).1, hF g rfl, fun j u hu => h.cells (g := g) rfl j u hu⟩⟩
theorem owns_len (hR : R.Ok) {B : Nat} {v : Value} (h : w.ownsRow B R.et R.sz v n (R.all L)) : L.length = n := by
  have h1 := h.1
  rw [all_length hR] at h1
  exact Nat.eq_of_mul_eq_mul_right hR.pos h1
theorem owns_some {B : Nat} {v : Value} {xs : List Value} (h : w.ownsRow B R.et R.sz v n xs) (hn : 0 < n) : ∃ g c, v = .slice (some ⟨g, 0, none⟩) n c ∧ B ≤ g ∧ g < w.heap.size := by
  rcases h.2 with ⟨_, h0⟩ | ⟨g, cap, cur, rfl, hb, hg, _⟩
  · omega
  · exact ⟨g, cap, rfl, hb, (Array.getElem?_eq_some_iff.1 hg).1⟩
/-- the cell of an element of a list of the call's own -/
theorem own_cell (hR : R.Ok) {B g : Nat} {j k : Nat} {e : α} {u : Value} (h : w.ownsRow B R.et R.sz (.slice (some ⟨g, 0, none⟩) n c) n (R.all L)) (hj : L[j]? = some e) (hk : (R.c e)[k]? = some u) : w.cell? ⟨g, j * R.sz + k, none⟩ = some u ∧ w.frozen? ⟨g, j * R.sz + k, none⟩ = false := by
  have hk' : k < R.sz := by have := (List.getElem?_eq_some_iff.1 hk).1; rwa [hR.len] at this
  constructor
  · have := h.cells (g := g) rfl (j * R.sz + k) u (by rw [all_get hR hj k hk', hk])
    rw [Addr.add_lit, Nat.zero_add] at this
    exact this
  · rcases h.2 with ⟨h, _⟩ | ⟨g', cap', cur, hv, hb, hg, _⟩
    · cases h
    · cases hv
      simp [World.frozen?, hg]
/-- a list without elements in a block of its own; one with none -/
theorem own_empty (R : Row α) (w : World) {H : Nat} (hH : w.heap.size = H) : (w.alloc (.cells #[] R.et)).ownsRow H R.et R.sz (.slice (some ⟨H, 0, none⟩) 0 0) 0 (R.all []) := by
  subst hH
  exact World.ownsRow_made (base := w.heap.size) (e := R.et) (size := R.sz) w #[] 0 (Nat.le_refl _) (by unfold maxLen; decide) (by simp)
theorem own_none (R : Row α) (w : World) (B : Nat) : w.ownsRow B R.et R.sz (.slice none 0 0) 0 (R.all []) := World.ownsRow_nil _ _ _ _
/-- an element in a block of its own -/
theorem list_one {g : Nat} {e : α} {fr : Nat × Nat} (h : w.heap[g]? = some (.cells (R.c e).toArray R.et fr)) : ∀ j u, (R.all [e])[j]? = some u → w.cell? ((⟨g, 0, none⟩ : Addr).add j) = some u := by
  intro j u hu
  rw [all_one] at hu
  rw [Addr.add_lit, Nat.zero_add]
  exact (cell_of_row w g j _ _ _ h).trans (by rw [List.getElem?_toArray]; exact hu)
/-- the append of one element -/
theorem append_one (hR : R.Ok) {ops : Array Oper} {rest : List Oper} {o : Oper} {a : Act} {Q : Exit → Act → World → Prop} (hgd : o.guard = none) (s x : Operand)
    (ho : o.op = .call { callee := .builtin .append, args := #[s, x], argTypes := #[R.st, R.st] })
    (base : Nat) (v : Value) (m0 : Nat) (M : List α) (hs : a.eval s = v) (hown : w.ownsRow base R.et R.sz v m0 (R.all M)) (g : Nat) (e : α) {fr : Nat × Nat} (hx : a.eval x = .slice (some ⟨g, 0, none⟩) 1 1) (hg : w.heap[g]? = some (.cells (R.c e).toArray R.et fr)) (hm : m0 ≤ 900000) (hbase : base ≤ w.heap.size)
    (h : ∀ g' c' w', w'.ownsRow base R.et R.sz (.slice (some ⟨g', 0, none⟩) (m0 + 1) c') (m0 + 1) (R.all (M ++ [e])) → w.grownBy w' v.ownBlock → (v.ownBlock = some g' ∨ g' = w.heap.size) → wpList Try.prog ops Q rest (a.put o.dst (.slice (some ⟨g', 0, none⟩) (m0 + 1) c')) w') : wpList Try.prog ops Q (o :: rest) a w := by
  obtain ⟨i1, hi1, hy0, hy1, hy2⟩ := info_parts hR.info
  have hsm := hR.small
  refine wpList_append_lies w hgd s x R.st ho base R.et i1 _ R.sz R.wide hR.und hi1 hy0 hy1 hy2 hR.zs hR.pos v m0 (R.all M) hs hown ⟨g, 0, none⟩ 1 1 (R.all [e]) hx (by rw [all_one, hR.len, Nat.one_mul]) (list_one hg) (all_flat hR _) (by decide) (by unfold maxLen; omega) (Nat.le_trans (Nat.mul_le_mul (show m0 + 1 ≤ 1000000 by omega) hsm) (by decide)) hbase _ rfl ?_
  intro g' c' w' h1 h2 h3 _
  rw [← all_append] at h1
  exact h g' c' w' h1 h2 h3
theorem wp_append_one (hR : R.Ok) {o : Oper} {a : Act} {K : Act → World → Prop} {Q : Exit → Act → World → Prop} (s x : Operand)
    (ho : o.op = .call { callee := .builtin .append, args := #[s, x], argTypes := #[R.st, R.st] })
    (base : Nat) (v : Value) (m0 : Nat) (M : List α) (hs : a.eval s = v) (hown : w.ownsRow base R.et R.sz v m0 (R.all M)) (g : Nat) (e : α) {fr : Nat × Nat} (hx : a.eval x = .slice (some ⟨g, 0, none⟩) 1 1) (hg : w.heap[g]? = some (.cells (R.c e).toArray R.et fr)) (hm : m0 ≤ 900000) (hbase : base ≤ w.heap.size)
    (h : ∀ g' c' w', w'.ownsRow base R.et R.sz (.slice (some ⟨g', 0, none⟩) (m0 + 1) c') (m0 + 1) (R.all (M ++ [e])) → w.grownBy w' v.ownBlock → (v.ownBlock = some g' ∨ g' = w.heap.size) → K (a.put o.dst (.slice (some ⟨g', 0, none⟩) (m0 + 1) c')) w') : o.wp Try.prog a w K Q := by
  obtain ⟨i1, hi1, hy0, hy1, hy2⟩ := info_parts hR.info
  have hsm := hR.small
  refine wp_append_lies w s x R.st ho base R.et i1 _ R.sz R.wide hR.und hi1 hy0 hy1 hy2 hR.zs hR.pos v m0 (R.all M) hs hown ⟨g, 0, none⟩ 1 1 (R.all [e]) hx (by rw [all_one, hR.len, Nat.one_mul]) (list_one hg) (all_flat hR _) (by decide) (by unfold maxLen; omega) (Nat.le_trans (Nat.mul_le_mul (show m0 + 1 ≤ 1000000 by omega) hsm) (by decide)) hbase _ rfl ?_
  intro g' c' w' h1 h2 h3 _
  rw [← all_append] at h1
  exact h g' c' w' h1 h2 h3
/-- the append of a list -/
theorem wp_append_list (hR : R.Ok) {o : Oper} {a : Act} {K : Act → World → Prop} {Q : Exit → Act → World → Prop} (s x : Operand)
    (ho : o.op = .call { callee := .builtin .append, args := #[s, x], argTypes := #[R.st, R.st] })
    (base : Nat) (v : Value) (m0 : Nat) (M : List α) (hs : a.eval s = v) (hown : w.ownsRow base R.et R.sz v m0 (R.all M)) (sa : Option Addr) (m c : Nat) (L : List α) (hx : a.eval x = .slice sa m c) (hl : TList R w F sa m c L) (hm : m0 + m ≤ 1000000) (hbase : base ≤ w.heap.size)
    (h : ∀ v' w', w'.ownsRow base R.et R.sz v' (m0 + m) (R.all (M ++ L)) → w.grownBy w' v.ownBlock → K (a.put o.dst v') w') : o.wp Try.prog a w K Q := by
  obtain ⟨i1, hi1, hy0, hy1, hy2⟩ := info_parts hR.info
  have hsm := hR.small
  cases sa with
  | none =>
    obtain ⟨rfl, rfl, rfl⟩ := hl.none
    have hrun := run_append_owned_none (P := Try.prog) (w := w) base R.st o.type R.et i1 R.sz hR.und hi1 v m0 (R.all M) hown
    unfold Oper.wp
    simp [execOp, ho, resolve, invoke, builtin, hs, hx, hrun, Result.andThen]
    exact h v w (by rw [List.append_nil]; exact hown) (e_grown _ _)
  | some ad =>
    refine wp_append_own w s x R.st ho base R.et i1 _ R.sz R.wide hR.und hi1 hy0 hy1 hy2 hR.zs hR.pos v m0 (R.all M) hs hown ad m c (R.all L) hx (by rw [all_length hR, hl.length]) hl.news (all_flat hR L) (by unfold maxLen; omega) (Nat.le_trans (Nat.mul_le_mul hm hsm) (by decide)) hbase ?_
    intro v' w' h1 h2 _
    rw [← all_append] at h1
    exact h v' w' h1 h2
theorem append_list (hR : R.Ok) {ops : Array Oper} {rest : List Oper} {o : Oper} {a : Act} {Q : Exit → Act → World → Prop} (hgd : o.guard = none) (s x : Operand)
    (ho : o.op = .call { callee := .builtin .append, args := #[s, x], argTypes := #[R.st, R.st] })
    (base : Nat) (v : Value) (m0 : Nat) (M : List α) (hs : a.eval s = v) (hown : w.ownsRow base R.et R.sz v m0 (R.all M)) (sa : Option Addr) (m c : Nat) (L : List α) (hx : a.eval x = .slice sa m c) (hl : TList R w F sa m c L) (hm : m0 + m ≤ 1000000) (hbase : base ≤ w.heap.size)
    (h : ∀ v' w', w'.ownsRow base R.et R.sz v' (m0 + m) (R.all (M ++ L)) → w.grownBy w' v.ownBlock → wpList Try.prog ops Q rest (a.put o.dst v') w') : wpList Try.prog ops Q (o :: rest) a w :=
  wpList_plain hgd fun _ hK => wp_append_list hR s x ho base v m0 M hs hown sa m c L hx hl hm hbase fun v' w' h1 h2 => hK _ _ (h v' w' h1 h2)
/-- where a list that the call owns grows, all else stays -/
theorem TList.grown {g : Option Nat} (h : TList R w F a n c L) (hg : w.grownBy w' g) (hF : ∀ b, g = some b → ¬ F b) : TList R w' F a n c L := by
  refine h.on ⟨hg.size, fun b hb hlt => hg.block b hlt (fun e => hF b e.symm hb)⟩
/-- cells put one after the other -/
def spliced (xs : List Value) : Nat → List Value → List Value
  | _, [] => xs
  | o, v :: r => spliced (xs.set o v) (o + 1) r
theorem spliced_cons (x : Value) (xs : List Value) (o : Nat) (vs : List Value) : spliced (x :: xs) (o + 1) vs = x :: spliced xs o vs := by
  induction vs generalizing xs o with
  | nil => rfl
  | cons v r ih => simp only [spliced, List.set_cons_succ]; rw [ih]
theorem spliced_front (xs ys vs : List Value) (o : Nat) : spliced (xs ++ ys) (xs.length + o) vs = xs ++ spliced ys o vs := by
  induction xs with
  | nil => simp
  | cons x xs ih => rw [List.cons_append, List.length_cons, show xs.length + 1 + o = xs.length + o + 1 by omega, spliced_cons, ih, List.cons_append]
theorem spliced_zero (xs ys vs : List Value) (h : xs.length = vs.length) : spliced (xs ++ ys) 0 vs = vs ++ ys := by
  induction vs generalizing xs with
  | nil => rw [List.length_eq_zero_iff.1 h]; rfl
  | cons v r ih =>
    match xs, h with
    | x :: xs, h =>
      simp only [List.cons_append, spliced, List.set_cons_zero]
      rw [spliced_cons, ih xs (by simpa using h)]
theorem all_set (hR : R.Ok) {k : Nat} (h : k < L.length) (e : α) : R.all (L.set k e) = spliced (R.all L) (k * R.sz) (R.c e) := by
  induction L generalizing k with
  | nil => cases h
  | cons x L ih =>
    cases k with
    | zero => rw [List.set_cons_zero, all_cons, all_cons, Nat.zero_mul, spliced_zero _ _ _ (by rw [hR.len, hR.len])]
    | succ k =>
      rw [List.set_cons_succ, all_cons, all_cons, ih (Nat.lt_of_succ_lt_succ h), show (k + 1) * R.sz = (R.c x).length + k * R.sz by rw [hR.len, Nat.succ_mul]; omega, spliced_front]
theorem owns_spliced {B sz g n cap : Nat} {t : TypeId} (vs : List Value) : ∀ {w : World} (o : Nat) {C : List Value}, w.ownsRow B t sz (.slice (some ⟨g, 0, none⟩) n cap) n C → (w.setCells g o vs).ownsRow B t sz (.slice (some ⟨g, 0, none⟩) n cap) n (spliced C o vs) := by
  induction vs with
  | nil => intro w o C h; exact h
  | cons v r ih => intro w o C h; exact ih (o + 1) (e_owns_cell h o v)
/-- the store of an element into a list of the call's own -/
theorem own_set (hR : R.Ok) {B g k : Nat} (h : w.ownsRow B R.et R.sz (.slice (some ⟨g, 0, none⟩) n c) n (R.all L)) (hk : k < n) (e : α) :
    (w.setCells g (k * R.sz) (R.c e)).ownsRow B R.et R.sz (.slice (some ⟨g, 0, none⟩) n c) n (R.all (L.set k e)) := by
  have hl := owns_len hR h
  rw [all_set hR (by omega)]
  exact owns_spliced _ _ h
theorem own_there (hR : R.Ok) {B g k : Nat} (h : w.ownsRow B R.et R.sz (.slice (some ⟨g, 0, none⟩) n c) n (R.all L)) (hk : k < n) : w.there g (k * R.sz) R.sz := by
  intro j hj
  obtain ⟨e, he⟩ : ∃ e, L[k]? = some e := ⟨_, List.getElem?_eq_getElem (by have := owns_len hR h; omega)⟩
  obtain ⟨u, hu⟩ : ∃ u, (R.c e)[j]? = some u := ⟨_, List.getElem?_eq_getElem (by rw [hR.len]; exact hj)⟩
  obtain ⟨h1, h2⟩ := own_cell hR h he hu
  exact ⟨by rw [h1]; rfl, h2⟩
theorem below_setCells {B g : Nat} {w0 : World} (hg : B ≤ g) : ∀ (vs : List Value) (o : Nat) {w' : World}, Below B w0 w' → Below B w0 (w'.setCells g o vs)
  | [], _, _, h => h
  | v :: r, o, _, h => below_setCells hg r (o + 1) (h.setCell hg v)
theorem Same.cells {g : Nat} (hr : ¬ F g) : ∀ (vs : List Value) (o : Nat) (w' : World), Same F w' (w'.setCells g o vs)
  | [], _, w' => Same.refl F w'
  | v :: r, o, _ => (Same.setCell (p := ⟨g, o, none⟩) hr v).trans (Same.cells hr r (o + 1) _)
/-- the index of a list and the store of a whole element there -/
theorem idx_store_row (hR : R.Ok) {ops : Array Oper} {rest : List Oper} {a : Act} {Q : Exit → Act → World → Prop} (d : Tmp) (s i y : Operand) {t1 t' : TypeId} {pos1 pos : String} {after1 after : Array Edge}
    (g o : Nat) (e : α) (hv : (execOp a.eval ⟨some d, .indexAddr R.st s i, t1, pos1, after1, none⟩).run Try.prog w = .ok (.value (.pointer (some ⟨g, o, none⟩))) w)
    (hx : (a.put (some d) (.pointer (some ⟨g, o, none⟩))).eval (.tmp d) = .pointer (some ⟨g, o, none⟩)) (hy : (a.put (some d) (.pointer (some ⟨g, o, none⟩))).eval y = .agg (R.c e).toArray) (ht : w.there g o R.sz)
    (h : ∀ w', w' = w.setCells g o (R.c e) → wpList Try.prog ops Q rest ((a.put (some d) (.pointer (some ⟨g, o, none⟩))).put none undef) w') :
    wpList Try.prog ops Q (⟨some d, .indexAddr R.st s i, t1, pos1, after1, none⟩ :: ⟨none, .store R.et (.tmp d) y, t', pos, after, none⟩ :: rest) a w :=
  wpList_plain rfl fun _ hK => by
    unfold Oper.wp
    rw [hv]
    refine hK _ _ (wpList_store_mid rfl R.et (.tmp d) y rfl g o (R.c e).toArray hx hy (by rw [List.size_toArray, hR.len]; exact ht) ?_ (all_oneCell_toArray (hR.flat e)) (h _ rfl))
    rw [List.size_toArray, hR.len]
    have := hR.info
    cases hq : Try.prog.info? R.et with
    | none => rw [hq] at this; cases this
    | some i =>
      rw [hq] at this
      simp only [Option.map_some, Option.some.injEq, Prod.mk.injEq] at this ⊢
      exact this.2.1
end
end Go.Proofs.Ytpkogdpgchibdaa.Rws

/- Lists of numbers that lie in memory, in the blocks of a set; lists of numbers that the call owns. -/
namespace Go.Proofs.Ytpkogdpgchibdaa.Ents
open Go.RowKit Plan EntMath
def IList (w : World) (F : Nat → Prop) (a : Option Addr) (len cap : Nat) (Z : List Int) : Prop :=
  (True ∧ len = 0 ∧ cap = 0 ∧ Z = []) ∨
  ∃ x, a = some x ∧ len ≤ cap ∧ cap ≤ maxLen ∧ Z.length = len ∧ x.block < w.heap.size ∧ F x.block ∧ ∀ (j : Nat) z, Z[j]? = some z → w.cell? (x.add j) = some (.int .i64 z)
theorem IList.nil (w : World) (F : Nat → Prop) : IList w F none 0 0 [] := .inl ⟨trivial, rfl, rfl, rfl⟩
theorem IList.length {w : World} {F : Nat → Prop} {a : Option Addr} {n c : Nat} {Z : List Int} (h : IList w F a n c Z) : Z.length = n := by
  rcases h with ⟨_, rfl, _, rfl⟩ | ⟨x, _, _, _, h4, _⟩
  · rfl
  · exact h4
theorem IList.cap {w : World} {F : Nat → Prop} {a : Option Addr} {n c : Nat} {Z : List Int} (h : IList w F a n c Z) : n ≤ c ∧ c ≤ maxLen := by
  rcases h with ⟨_, rfl, rfl, rfl⟩ | ⟨x, _, h2, h3, _⟩
  · exact ⟨Nat.le_refl _, Nat.zero_le _⟩
  · exact ⟨h2, h3⟩
theorem IList.on {F : Nat → Prop} {w w' : World} {a : Option Addr} {n c : Nat} {Z : List Int} (h : IList w F a n c Z) (hw : Same F w w') : IList w' F a n c Z := by
  rcases h with h | ⟨x, h1, h2, h3, h4, h5, h6, h7⟩
  · exact .inl h
  · exact .inr ⟨x, h1, h2, h3, h4, Nat.lt_of_lt_of_le h5 hw.1, h6, fun j z hz => hw.cell (by rw [ent_add_block]; exact h6) (h7 j z hz)⟩
theorem IList.mono {F G : Nat → Prop} {w : World} {a : Option Addr} {n c : Nat} {Z : List Int} (h : IList w F a n c Z) (hFG : ∀ b, b < w.heap.size → F b → G b) : IList w G a n c Z := by
  rcases h with h | ⟨x, h1, h2, h3, h4, h5, h6, h7⟩
  · exact .inl h
  · exact .inr ⟨x, h1, h2, h3, h4, h5, hFG _ h5 h6, h7⟩
theorem IList.cut {F : Nat → Prop} {w : World} {a : Option Addr} {n c : Nat} {Z : List Int} (h : IList w F a n c Z) : IList w (fun b => F b ∧ b < w.heap.size) a n c Z := h.mono fun _ hb hf => ⟨hf, hb⟩
theorem IList.low {F : Nat → Prop} {w : World} {a : Option Addr} {n c : Nat} {Z : List Int} (h : IList w F a n c Z) : IList w (fun b => b < w.heap.size) a n c Z := h.mono fun _ hb _ => hb
theorem IList.same {F : Nat → Prop} {w w' : World} {a : Option Addr} {n c : Nat} {Z : List Int} (h : IList w F a n c Z) (hb : Below w.heap.size w w') : IList w' (fun b => b < w.heap.size) a n c Z := h.low.on (Same.low hb)
theorem IList.at' {F : Nat → Prop} {w : World} {a : Option Addr} {n c : Nat} {Z : List Int} (h : IList w F a n c Z) (i : Nat) (hi : i < n) : ∃ x z, a = some x ∧ Z[i]? = some z ∧ w.cell? (x.add i) = some (.int .i64 z) := by
  have hl := h.length
  rcases h with ⟨_, rfl, _, _⟩ | ⟨x, h1, _, _, _, _, _, h7⟩
  · omega
  · have he : Z[i]? = some (Z[i]'(by omega)) := List.getElem?_eq_getElem _
    exact ⟨x, _, h1, he, h7 i _ he⟩
theorem IList.some' {F : Nat → Prop} {w : World} {a : Option Addr} {n c : Nat} {Z : List Int} (h : IList w F a n c Z) (hn : 0 < n) : ∃ x, a = some x ∧ x.block < w.heap.size ∧ ∀ (j : Nat) z, Z[j]? = some z → w.cell? (x.add j) = some (.int .i64 z) := by
  rcases h with ⟨_, rfl, _, _⟩ | ⟨x, h1, _, _, _, h5, _, h7⟩
  · omega
  · exact ⟨x, h1, h5, h7⟩
/-- a list of numbers as cells -/
def intC (Z : List Int) : List Value := Z.map fun z => .int .i64 z
theorem intC_len (Z : List Int) : (intC Z).length = Z.length := by simp [intC]
theorem intC_at {Z : List Int} {j : Nat} {z : Int} (h : Z[j]? = some z) : (intC Z)[j]? = some (.int .i64 z) := by simp [intC, h]
theorem intC_flat (Z : List Int) : ∀ u ∈ intC Z, u.oneCell' = true := by
  intro u hu
  obtain ⟨z, _, rfl⟩ := List.mem_map.1 hu
  rfl
theorem intC_set (Z : List Int) (i : Nat) (z : Int) : (intC Z).set i (.int .i64 z) = intC (Z.set i z) := by simp [intC, List.map_set]
theorem intC_cell {Z : List Int} {w : World} {x : Addr} (h : ∀ (j : Nat) z, Z[j]? = some z → w.cell? (x.add j) = some (.int .i64 z)) : ∀ j u, (intC Z)[j]? = some u → w.cell? (x.add j) = some u := by
  intro j u hu
  unfold intC at hu
  rw [List.getElem?_map] at hu
  cases hz : Z[j]? with
  | none => rw [hz] at hu; cases hu
  | some z =>
    rw [hz] at hu
    obtain rfl := Option.some.inj hu
    exact h j z hz
theorem own_ilist {w : World} {B : Nat} {v : Value} {n : Nat} {Z : List Int} {F : Nat → Prop} (h : w.ownsRow B 3 1 v n (intC Z)) (hF : ∀ b, v.ownBlock = some b → F b) : ∃ a c, v = .slice a n c ∧ IList w F a n c Z := by
  have hn : Z.length = n := by have := h.1; rw [intC_len] at this; omega
  rcases h.2 with ⟨rfl, rfl⟩ | ⟨g, cap, cur, rfl, _, hg, h1, h2, _⟩
  · exact ⟨none, 0, rfl, .inl ⟨trivial, rfl, rfl, List.length_eq_zero_iff.1 hn⟩⟩
  · exact ⟨_, _, rfl, .inr ⟨_, rfl, h1, h2, hn, (Array.getElem?_eq_some_iff.1 hg).1, hF g rfl, fun j z hz => h.cells (g := g) rfl j _ (intC_at hz)⟩⟩
theorem int_info : (Try.prog.info? 3).map (fun i => (i.zero, i.size, i.bytes)) = some (some (.int .i64 0), 1, 8) := by kernel_rfl
theorem ints_empty (w : World) {H : Nat} (hH : w.heap.size = H) : (w.alloc (.cells #[] 3)).ownsRow H 3 1 (.slice (some ⟨H, 0, none⟩) 0 0) 0 [] := by
  subst hH
  exact World.ownsRow_made (base := w.heap.size) (e := 3) (size := 1) w #[] 0 (Nat.le_refl _) (by unfold maxLen; decide) rfl
theorem int_own_cell {w : World} {B g n cap : Nat} {Z : List Int} {j : Nat} {z : Int} (h : w.ownsRow B 3 1 (.slice (some ⟨g, 0, none⟩) n cap) n (intC Z)) (hj : Z[j]? = some z) : w.cell? ⟨g, j, none⟩ = some (.int .i64 z) ∧ w.frozen? ⟨g, j, none⟩ = false := by
  constructor
  · have := h.cells (g := g) rfl j _ (intC_at hj)
    rw [Addr.add_lit, Nat.zero_add] at this
    exact this
  · rcases h.2 with ⟨h, _⟩ | ⟨g', cap', cur, hv, hb, hg, _⟩
    · cases h
    · cases hv
      simp [World.frozen?, hg]
theorem i_b {a b : Bool} (h : a = b) : Ending.returned (.bool a) = .returned (.bool b) := by rw [h]
end Go.Proofs.Ytpkogdpgchibdaa.Ents

/- Counters in memory; the walks of the document's Valid, has, plus, Same, New of counters. -/
namespace Go.Proofs.Ytpkogdpgchibdaa.Ents
open Go.RowKit Plan EntMath CntMath
abbrev cntV (a : Option Addr) (n c : Nat) (a2 : Option Addr) (n2 c2 : Nat) : Value := .agg #[.slice a n c, .slice a2 n2 c2]
/-- counters that lie in the blocks of a set -/
structure CList (w : World) (F : Nat → Prop) (a : Option Addr) (n c : Nat) (a2 : Option Addr) (n2 c2 : Nat) (C : Cnt) : Prop where
  l : IList w F a n c C.live
  p : IList w F a2 n2 c2 C.pend
theorem CList.on {F : Nat → Prop} {w w' : World} {a a2 : Option Addr} {n c n2 c2 : Nat} {C : Cnt} (h : CList w F a n c a2 n2 c2 C) (hw : Same F w w') : CList w' F a n c a2 n2 c2 C := ⟨h.l.on hw, h.p.on hw⟩
theorem CList.mono {F G : Nat → Prop} {w : World} {a a2 : Option Addr} {n c n2 c2 : Nat} {C : Cnt} (h : CList w F a n c a2 n2 c2 C) (hFG : ∀ b, b < w.heap.size → F b → G b) : CList w G a n c a2 n2 c2 C := ⟨h.l.mono hFG, h.p.mono hFG⟩
theorem CList.cut {F : Nat → Prop} {w : World} {a a2 : Option Addr} {n c n2 c2 : Nat} {C : Cnt} (h : CList w F a n c a2 n2 c2 C) : CList w (fun b => F b ∧ b < w.heap.size) a n c a2 n2 c2 C := ⟨h.l.cut, h.p.cut⟩
theorem CList.same {F : Nat → Prop} {w w' : World} {a a2 : Option Addr} {n c n2 c2 : Nat} {C : Cnt} (h : CList w F a n c a2 n2 c2 C) (hb : Below w.heap.size w w') : CList w' (fun b => b < w.heap.size) a n c a2 n2 c2 C := ⟨h.l.same hb, h.p.same hb⟩
theorem two_row {w : World} {g : Nat} {a b : Value} {t : TypeId} {fr : Nat × Nat} (h : w.heap[g]? = some (.cells #[a, b] t fr)) : w.cell? ⟨g, 0, none⟩ = some a ∧ w.cell? ⟨g, 1, none⟩ = some b := ⟨cell_of_row _ _ 0 _ _ _ h, cell_of_row _ _ 1 _ _ _ h⟩
theorem cnt_no {C : Cnt} (h : ¬ (C.live.length = C.pend.length ∧ 1 ≤ C.live.length ∧ C.live.length ≤ 32)) : validC C = false := by
  cases hv : validC C
  · rfl
  · exact absurd (valid_c.1 hv).1 h
theorem cnt_badl {C : Cnt} {j : Nat} {z : Int} (hz : C.live[j]? = some z) (h : ¬ (0 ≤ z ∧ z ≤ 1099511627776)) : validC C = false := by
  cases hv : validC C
  · rfl
  · exact absurd ((valid_c.1 hv).2.1 z (List.mem_of_getElem? hz)) h
theorem cnt_badp {C : Cnt} {j : Nat} {z : Int} (hz : C.pend[j]? = some z) (h : ¬ (0 ≤ z ∧ z ≤ 1099511627776)) : validC C = false := by
  cases hv : validC C
  · rfl
  · exact absurd ((valid_c.1 hv).2.2 z (List.mem_of_getElem? hz)) h
theorem cnt_all {C : Cnt} (h : C.live.length = C.pend.length ∧ 1 ≤ C.live.length ∧ C.live.length ≤ 32) (hs : ∀ j : Nat, j < C.live.length → (∀ z, C.live[j]? = some z → 0 ≤ z ∧ z ≤ 1099511627776) ∧ ∀ z, C.pend[j]? = some z → 0 ≤ z ∧ z ≤ 1099511627776) : validC C = true := by
  refine valid_c.2 ⟨h, fun z hz => ?_, fun z hz => ?_⟩
  · obtain ⟨j, hj⟩ := List.mem_iff_getElem?.1 hz
    exact (hs j (List.getElem?_eq_some_iff.1 hj).1).1 z hj
  · obtain ⟨j, hj⟩ := List.mem_iff_getElem?.1 hz
    exact (hs j (by have := (List.getElem?_eq_some_iff.1 hj).1; omega)).2 z hj
theorem five_ways (z y : Int) : (z < 0) ∨ (¬ z < 0 ∧ 1099511627776 < z) ∨ (¬ z < 0 ∧ ¬ 1099511627776 < z ∧ y < 0) ∨ (¬ z < 0 ∧ ¬ 1099511627776 < z ∧ ¬ y < 0 ∧ 1099511627776 < y) ∨ (¬ z < 0 ∧ ¬ 1099511627776 < z ∧ ¬ y < 0 ∧ ¬ 1099511627776 < y) := by omega
theorem plus_is {Z : List Int} {i : Nat} {z : Int} (h : Z[i]? = some z) (k : Int) : plusL Z i k = Z.set i (z + k) := by unfold plusL; rw [getD_at h]
end Go.Proofs.Ytpkogdpgchibdaa.Ents

/- The walks of the document's New, Begin, End, Clear of counters. -/
namespace Go.Proofs.Ytpkogdpgchibdaa.Ents
open Go.RowKit Plan EntMath CntMath
theorem made_zero (w : World) {n j : Nat} (hj : j < n) : (madeCells #[(.int .i64 0 : Value)] n)[j]? = some (.int .i64 0) := by
  have h1 := (World.rowIs_made w (.int .i64 0) n 3).cell hj
  have h2 := cell_of_row (w.alloc (.cells (madeCells #[(.int .i64 0 : Value)] n) 3)) w.heap.size j _ _ _ (heap_alloc_new w _)
  rw [h1] at h2
  exact h2.symm
abbrev zeroRow (n : Nat) : Obj := .cells (madeCells #[(.int .i64 0 : Value)] n) 3
theorem zeros_ilist {w : World} {F : Nat → Prop} {g n : Nat} (h : w.heap[g]? = some (zeroRow n)) (hn : n ≤ maxLen) (hF : F g) : IList w F (some ⟨g, 0, none⟩) n n (List.replicate n 0) := by
  refine .inr ⟨_, rfl, Nat.le_refl _, hn, by simp, e_lt h, hF, fun j z hz => ?_⟩
  have hj := (List.getElem?_eq_some_iff.1 hz).1
  rw [List.length_replicate] at hj
  rw [List.getElem?_replicate, if_pos hj] at hz
  obtain rfl := Option.some.inj hz
  have h2 := cell_of_row w g j _ _ _ h
  rw [made_zero w hj] at h2
  rw [Addr.add_lit, Nat.zero_add]
  exact h2
/-- what New leaves -/
def CNewPost (w : World) (C : Cnt) (E : Int) (r : Ending) (w' : World) : Prop :=
  ∃ a n c a2 n2 c2, r = .returned (.tuple #[cntV a n c a2 n2 c2, .int .i64 E]) ∧ CList w' (fun b => w.heap.size ≤ b) a n c a2 n2 c2 C ∧ Below w.heap.size w w'
theorem int_row : (Try.prog.info? 3).map (fun i => (i.zero, i.size, i.bytes)) = some (some (.int .i64 0), 1, 8) := int_info
/-- what New leaves where it makes counters: two different blocks of zeros -/
def CNewTwo (w : World) (n : Nat) (r : Ending) (w' : World) : Prop :=
  ∃ g g2, w.heap.size ≤ g ∧ w.heap.size ≤ g2 ∧ g ≠ g2 ∧ r = .returned (.tuple #[cntV (some ⟨g, 0, none⟩) n n (some ⟨g2, 0, none⟩) n n, .int .i64 0]) ∧ w'.heap[g]? = some (zeroRow n) ∧ w'.heap[g2]? = some (zeroRow n) ∧ Below w.heap.size w w'
/-- what a function that changes counters leaves -/
def CntPost (w : World) (F : Nat → Prop) (C : Cnt) (B : Bool) (r : Ending) (w' : World) : Prop :=
  ∃ a n c a2 n2 c2, r = .returned (.tuple #[cntV a n c a2 n2 c2, .bool B]) ∧ CList w' (Plus F w.heap.size) a n c a2 n2 c2 C ∧ Below w.heap.size w w'
theorem has_no {C : Cnt} {z : Int} (h : hasC C z = false) : (beginC C z = C ∧ beginB C z = false) ∧ (endC C z = C ∧ endB C z = false) ∧ clearB C z = false := by
  have h1 : beginB C z = false := by unfold beginB; rw [h]; rfl
  have h2 : endB C z = false := by unfold endB; rw [h]; rfl
  exact ⟨⟨by unfold beginC; rw [h1]; rfl, h1⟩, ⟨by unfold endC; rw [h2]; rfl, h2⟩, by unfold clearB; rw [h]; rfl⟩
theorem begin_is {C : Cnt} {k : Nat} {p : Int} (h : hasC C (k : Int) = true) (hp : C.pend[k]? = some p) : beginB C (k : Int) = decide (p ≠ 1099511627776) ∧ beginC C (k : Int) = if p = 1099511627776 then C else ⟨C.live, plusL C.pend k 1⟩ := by
  have h1 : beginB C (k : Int) = decide (p ≠ 1099511627776) := by unfold beginB; rw [h, Int.toNat_natCast, getD_at hp]; rfl
  refine ⟨h1, ?_⟩
  unfold beginC
  rw [h1]
  by_cases hq : p = 1099511627776
  · rw [if_pos hq, if_neg (by simpa using hq)]
  · rw [if_neg hq, if_pos (by simpa using hq)]
    rfl
theorem end_is {C : Cnt} {k : Nat} {p : Int} (h : hasC C (k : Int) = true) (hp : C.pend[k]? = some p) : endB C (k : Int) = decide (p ≠ 0) ∧ endC C (k : Int) = if p = 0 then C else ⟨C.live, plusL C.pend k (-1)⟩ := by
  have h1 : endB C (k : Int) = decide (p ≠ 0) := by unfold endB; rw [h, Int.toNat_natCast, getD_at hp]; rfl
  refine ⟨h1, ?_⟩
  unfold endC
  rw [h1]
  by_cases hq : p = 0
  · rw [if_pos hq, if_neg (by simpa using hq)]
  · rw [if_neg hq, if_pos (by simpa using hq)]
    rfl
theorem has_at {w : World} {F : Nat → Prop} {C : Cnt} {z : Int} {a a2 : Option Addr} {n c n2 c2 : Nat} (hl : CList w F a n c a2 n2 c2 C) (h : hasC C z = true) : ∃ k : Nat, z = (k : Int) ∧ n = n2 ∧ k < n ∧ n ≤ 32 ∧ ∃ x q x2 p, a = some x ∧ a2 = some x2 ∧ C.live[k]? = some q ∧ C.pend[k]? = some p ∧ (0 ≤ q ∧ q ≤ 1099511627776) ∧ (0 ≤ p ∧ p ≤ 1099511627776) ∧ w.cell? (x.add k) = some (.int .i64 q) ∧ w.cell? (x2.add k) = some (.int .i64 p) := by
  obtain ⟨hv, h0, h1⟩ := has_c.1 h
  have hvv := valid_c.1 hv
  have hln := hl.l.length
  have hpn := hl.p.length
  obtain ⟨k, rfl⟩ : ∃ k : Nat, z = (k : Int) := ⟨z.toNat, by omega⟩
  have hk : k < n := by omega
  obtain ⟨x, q, hx, hq, hc⟩ := hl.l.at' k hk
  obtain ⟨x2, p, hx2, hp, hc2⟩ := hl.p.at' k (by omega)
  exact ⟨k, rfl, by omega, hk, by omega, x, q, x2, p, hx, hx2, hq, hp, hvv.2.1 q (List.mem_of_getElem? hq), hvv.2.2 p (List.mem_of_getElem? hp), hc, hc2⟩
end Go.Proofs.Ytpkogdpgchibdaa.Ents

/- The walks of the document's Clear, Change of counters. -/
namespace Go.Proofs.Ytpkogdpgchibdaa.Ents
open Go.RowKit Plan EntMath CntMath
/-- a load of a whole struct under a guard -/
theorem load_lit_gc {P : Program} {ops : Array Oper} {rest : List Oper} {a : Act} {w : World} {Q : Exit → Act → World → Prop} (ty : TypeId) (x : Operand) {dst : Option Tmp} {t' : TypeId} {pos : String} {after : Array Edge} {j : Nat} {y : Bool}
    (g : Nat) {t : TypeId} {cs : Array Value} {fr : Nat × Nat} {d : TypeDesc} (hw : Region.wanted ⟨dst, .load ty x, t', pos, after, some (j, y)⟩ (yielded ops a.tmps) = true) (hx : a.eval x = .pointer (some ⟨g, 0, none⟩)) (hg : w.heap[g]? = some (.cells cs t fr))
    (hu : P.underlying ty = some d) (hd : (match d with | .struct _ | .array _ _ => true | _ => false) = true) (hi : (P.info? ty).map (·.size) = some cs.size)
    (h : wpList P ops Q rest (a.put dst (.agg cs)) w) : wpList P ops Q (⟨dst, .load ty x, t', pos, after, some (j, y)⟩ :: rest) a w :=
  BigFrame.wpList_want hw fun _ hK => wp_load_row ty x rfl g hx t cs fr d hg hu hd hi (hK _ _ h)
theorem run_store_slice_c (w : World) (ty : TypeId) (b o : Nat) (sa : Option Addr) (sl sc : Nat) (hc : ∃ u, w.cell? ⟨b, o, none⟩ = some u) (hf : w.frozen? ⟨b, o, none⟩ = false) (hi : (Try.prog.info? ty).map (·.size) = some 1) :
    (storeVar ty ⟨b, o, none⟩ (.slice sa sl sc)).run Try.prog w = .ok () (w.setCell ⟨b, o, none⟩ (.slice sa sl sc)) := by
  obtain ⟨u, hu⟩ := hc
  cases hq : Try.prog.info? ty with
  | none => simp [hq] at hi
  | some i =>
    have hs : i.size = 1 := by simpa [hq] using hi
    have hst := run_store Try.prog w ⟨b, o, none⟩ (.slice sa sl sc) .plain rfl
    rw [hu, hf] at hst
    simp only [Bool.false_eq_true, if_false] at hst
    have ha : (⟨b, o, none⟩ : Addr).add 0 = ⟨b, o, none⟩ := by rw [Addr.add_lit, Nat.add_zero]
    simp [storeVar, sizeOf, typeInfo, hq, Value.cells, hs, storeCells, ha, hst]
theorem wp_store_slice_c {op : Oper} {a : Act} {w : World} {K : Act → World → Prop} {Q : Exit → Act → World → Prop} (ty : TypeId) (x y : Operand) (ho : op.op = .store ty x y)
    (b o : Nat) (sa : Option Addr) (sl sc : Nat) (hx : a.eval x = .pointer (some ⟨b, o, none⟩)) (hy : a.eval y = .slice sa sl sc) (hc : ∃ u, w.cell? ⟨b, o, none⟩ = some u) (hf : w.frozen? ⟨b, o, none⟩ = false) (hi : (Try.prog.info? ty).map (·.size) = some 1)
    (h : K (a.put op.dst undef) (w.setCell ⟨b, o, none⟩ (.slice sa sl sc))) : op.wp Try.prog a w K Q := by
  unfold Oper.wp execOp
  simp only [ho, hx, hy, Instr.storeAt, Instr.sureAddr, Sem.run_bind, Sem.run_pure, Result.andThen_ok, run_store_slice_c w ty b o sa sl sc hc hf hi]
  exact h
theorem store_slice_c {ops : Array Oper} {rest : List Oper} {a : Act} {w : World} {Q : Exit → Act → World → Prop} (ty : TypeId) (x y : Operand) {t' : TypeId} {pos : String} {after : Array Edge}
    (b o : Nat) (sa : Option Addr) (sl sc : Nat) (hx : a.eval x = .pointer (some ⟨b, o, none⟩)) (hy : a.eval y = .slice sa sl sc) (hc : ∃ u, w.cell? ⟨b, o, none⟩ = some u) (hf : w.frozen? ⟨b, o, none⟩ = false) (hi : (Try.prog.info? ty).map (·.size) = some 1)
    (h : wpList Try.prog ops Q rest (a.put none undef) (w.setCell ⟨b, o, none⟩ (.slice sa sl sc))) : wpList Try.prog ops Q (⟨none, .store ty x y, t', pos, after, none⟩ :: rest) a w :=
  wpList_plain rfl fun _ hK => wp_store_slice_c ty x y rfl b o sa sl sc hx hy hc hf hi (hK _ _ h)
theorem ints_info1 : (Try.prog.info? 39).map (·.size) = some 1 := by kernel_rfl
theorem free_row_c {w : World} {g o : Nat} {cs : Array Value} {t : TypeId} (h : w.heap[g]? = some (.cells cs t (0, 0))) : w.frozen? ⟨g, o, none⟩ = false := by simp [World.frozen?, h]
theorem change_no {C : Cnt} {o f : Int} {had is : Bool} (h : asksC C o f had is = false) : changeC C o f had is = C ∧ changeB C o f had is = false := by
  have h1 : changeB C o f had is = false := by unfold changeB; rw [h]; rfl
  exact ⟨by unfold changeC; rw [h1]; rfl, h1⟩
theorem change_yes {C : Cnt} {o f : Int} {had is : Bool} (h : asksC C o f had is = true) : changeB C o f had is = validC (changedC C o f had is) ∧ changeC C o f had is = if validC (changedC C o f had is) = true then changedC C o f had is else C := by
  have h1 : changeB C o f had is = validC (changedC C o f had is) := by unfold changeB; rw [h, Bool.true_and]
  exact ⟨h1, by unfold changeC; rw [h1]⟩
end Go.Proofs.Ytpkogdpgchibdaa.Ents
