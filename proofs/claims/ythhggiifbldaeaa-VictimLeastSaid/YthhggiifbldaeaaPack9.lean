/- Texts that belong together, part 9. -/
import Derived.Test.YthhggiifbldaeaaPack8
import Derived.Laws.AppendOwn
import Derived.Laws.AppendOwnNone

/- Appends to a list of entries that the call owns: a list, one entry; in a walk and in a region that draws its order. -/
namespace Go.Proofs.Ythhggiifbldaeaa.Ents
open Go.RowKit Plan EntMath
theorem e_info : (Try.prog.info? 47).map (fun i => (i.zero, i.size, i.bytes)) = some (some (.agg #[.int .i64 0, .int .i64 0, .int .i64 0, .int .i64 0, .int .i64 0, .int .i64 0]), 6, 48) := by kernel_rfl
theorem e_grown (w : World) (r : Option Nat) : w.grownBy w r := ⟨rfl, rfl, rfl, Nat.le_refl _, fun _ _ _ => rfl⟩
theorem EList.news {w : World} {F : Nat → Prop} {ad : Addr} {len cap : Nat} {L : List Ent} (h : EList w F (some ad) len cap L) : ∀ j u, (ents L)[j]? = some u → w.cell? (ad.add j) = some u := by
  rcases h with ⟨_, _, _, rfl⟩ | ⟨x, h1, _, _, _, _, _, h7⟩
  · intro j u hu
    simp [ents] at hu
  · obtain rfl := Option.some.inj h1
    exact h7
theorem EList.none {w : World} {F : Nat → Prop} {len cap : Nat} {L : List Ent} (h : EList w F none len cap L) : len = 0 ∧ cap = 0 ∧ L = [] := by
  rcases h with ⟨_, h⟩ | ⟨x, h1, _⟩
  · exact h
  · cases h1
theorem wp_append_ents {F : Nat → Prop} {w : World} {o : Oper} {a : Act} {K : Act → World → Prop} {Q : Exit → Act → World → Prop} (s x : Operand)
    (ho : o.op = .call { callee := .builtin .append, args := #[s, x], argTypes := #[50, 50] })
    (base : Nat) (v : Value) (m0 : Nat) (M : List Ent) (hs : a.eval s = v) (hown : w.ownsRow base 47 6 v m0 (ents M)) (sa : Option Addr) (m c : Nat) (L : List Ent) (hx : a.eval x = .slice sa m c) (hl : EList w F sa m c L) (hm : m0 + m ≤ 1000000) (hbase : base ≤ w.heap.size)
    (h : ∀ v' w', w'.ownsRow base 47 6 v' (m0 + m) (ents (M ++ L)) → w.grownBy w' v.ownBlock → K (a.put o.dst v') w') : o.wp Try.prog a w K Q := by
  obtain ⟨i1, hi1, hy0, hy1, hy2⟩ := info_parts e_info
  cases sa with
  | none =>
    obtain ⟨rfl, rfl, rfl⟩ := hl.none
    have hrun := run_append_owned_none (P := Try.prog) (w := w) base 50 o.type 47 i1 6 Try.underlying50 hi1 v m0 (ents M) hown
    unfold Oper.wp
    simp [execOp, ho, resolve, invoke, builtin, hs, hx, hrun, Result.andThen]
    exact h v w (by rw [List.append_nil]; exact hown) (e_grown _ _)
  | some ad =>
    refine wp_append_own w s x 50 ho base 47 i1 _ 6 48 Try.underlying50 hi1 hy0 hy1 hy2 rfl (by decide) v m0 (ents M) hs hown ad m c (ents L) hx (by rw [ents_length, hl.length]) hl.news (ents_flat L) (by unfold maxLen; omega) (by omega) hbase ?_
    intro v' w' h1 h2 _
    rw [← ents_append] at h1
    exact h v' w' h1 h2
theorem append_ents {F : Nat → Prop} {w : World} {ops : Array Oper} {rest : List Oper} {o : Oper} {a : Act} {Q : Exit → Act → World → Prop} (hgd : o.guard = none) (s x : Operand)
    (ho : o.op = .call { callee := .builtin .append, args := #[s, x], argTypes := #[50, 50] })
    (base : Nat) (v : Value) (m0 : Nat) (M : List Ent) (hs : a.eval s = v) (hown : w.ownsRow base 47 6 v m0 (ents M)) (sa : Option Addr) (m c : Nat) (L : List Ent) (hx : a.eval x = .slice sa m c) (hl : EList w F sa m c L) (hm : m0 + m ≤ 1000000) (hbase : base ≤ w.heap.size)
    (h : ∀ v' w', w'.ownsRow base 47 6 v' (m0 + m) (ents (M ++ L)) → w.grownBy w' v.ownBlock → wpList Try.prog ops Q rest (a.put o.dst v') w') : wpList Try.prog ops Q (o :: rest) a w :=
  wpList_plain hgd fun _ hK => wp_append_ents s x ho base v m0 M hs hown sa m c L hx hl hm hbase fun v' w' h1 h2 => hK _ _ (h v' w' h1 h2)
/-- one entry in a block of its own -/
theorem elist_one {w : World} {g : Nat} {b k v m z o : Int} (h : w.heap[g]? = some (entRow b k v m z o)) : EList w (fun _ => True) (some ⟨g, 0, none⟩) 1 1 [⟨b, k, v, m, z, o⟩] := by
  refine .inr ⟨_, rfl, Nat.le_refl _, by unfold maxLen; decide, rfl, (Array.getElem?_eq_some_iff.1 h).1, trivial, fun j u hu => ?_⟩
  rw [ents_one] at hu
  have hj := (List.getElem?_eq_some_iff.1 hu).1
  rw [Addr.add_lit, Nat.zero_add]
  obtain ⟨h0, h1, h2, h3, h4, h5⟩ := entry_row h
  simp only [entC, List.length_cons, List.length_nil] at hj
  match j, hj, hu with
  | 0, _, hu => obtain rfl := Option.some.inj hu; exact h0
  | 1, _, hu => obtain rfl := Option.some.inj hu; exact h1
  | 2, _, hu => obtain rfl := Option.some.inj hu; exact h2
  | 3, _, hu => obtain rfl := Option.some.inj hu; exact h3
  | 4, _, hu => obtain rfl := Option.some.inj hu; exact h4
  | 5, _, hu => obtain rfl := Option.some.inj hu; exact h5
end Go.Proofs.Ythhggiifbldaeaa.Ents

/- The walk of the document's Install. -/
namespace Go.Proofs.Ythhggiifbldaeaa.Ents
open Go.RowKit Plan EntMath
theorem inst_a {L : List Ent} {e : Ent} (h : validB L = false) : installL L e = [] ∧ installE L e = zeroE ∧ newer L e = false := by
  unfold installL installE newer
  simp [h]
theorem inst_b {L : List Ent} {e : Ent} (h : validB L = true) (h2 : okE e = false) : installL L e = L ∧ installE L e = zeroE ∧ newer L e = false := by
  unfold installL installE newer
  simp [h, h2]
theorem inst_c {L : List Ent} {e x : Ent} (h : validB L = true) (h2 : okE e = true) (hx : lookE L e.block = some x) (hv : e.version ≤ x.version) : installL L e = L ∧ installE L e = x ∧ newer L e = false := by
  have hd : ¬ x.version < e.version := by omega
  unfold installL installE newer
  simp [h, h2, hx, hd]
theorem inst_d {L : List Ent} {e : Ent} (h : validB L = true) (h2 : okE e = true) (hx : lookE L e.block = none) : installL L e = (L.take (place L e.block) ++ [e]) ++ L.drop (place L e.block) ∧ installE L e = zeroE ∧ newer L e = true := by
  have hi := ins_place e hx (valid_iff.1 h).2
  have hn : newer L e = true := by unfold newer; simp [h, h2, hx]
  refine ⟨?_, ?_, hn⟩
  · unfold installL; rw [if_pos h, if_pos hn, ← hi]; simp
  · unfold installE; rw [if_pos ⟨h, h2⟩, hx]; rfl
theorem inst_e {L : List Ent} {e x : Ent} (h : validB L = true) (h2 : okE e = true) (hx : lookE L e.block = some x) (hv : x.version < e.version) : installL L e = (L.take (place L e.block) ++ [e]) ++ L.drop (place L e.block + 1) ∧ installE L e = x ∧ newer L e = true := by
  have hi := ins_over e x hx (valid_iff.1 h).2
  have hn : newer L e = true := by unfold newer; simp [h, h2, hx, hv]
  refine ⟨?_, ?_, hn⟩
  · unfold installL; rw [if_pos h, if_pos hn, ← hi]; simp
  · unfold installE; rw [if_pos ⟨h, h2⟩, hx]; rfl
/-- what a function that gives a list, an entry and a yes or no leaves -/
def InstPost (w : World) (F : Nat → Prop) (L : List Ent) (E : Ent) (B : Bool) (r : Ending) (w' : World) : Prop :=
  ∃ a len cap, r = .returned (.tuple #[.slice a len cap, entV E, .bool B]) ∧ EList w' (Plus F w.heap.size) a len cap L ∧ Below w.heap.size w w'
/-- a plain result, a struct and a plain one -/
theorem results_tct {P : Program} {fn : Func} {p q r : Tmp} {ty : TypeId} (h : fn.results = #[.tmp p, .cell q ty, .tmp r]) (tmps : Array Value) (w : World) (g : Nat) (t : TypeId) (cs : Array Value) (fr : Nat × Nat) (d : TypeDesc)
    (hp : tmps.getD q undef = .pointer (some ⟨g, 0, none⟩)) (hg : w.heap[g]? = some (.cells cs t fr))
    (hu : P.underlying ty = some d) (hd : (match d with | .struct _ | .array _ _ => true | _ => false) = true) (hi : (P.info? ty).map (·.size) = some cs.size) :
    (results fn tmps).run P w = .ok (.tuple #[tmps.getD p undef, .agg cs, tmps.getD r undef]) w := by
  have hp' : tmps[q]?.getD undef = .pointer (some ⟨g, 0, none⟩) := by simpa using hp
  simp [results, h, hp', asAddr, run_loadVar_row w g t ty cs fr d hg hu hd hi]
theorem EList.low {w : World} {F : Nat → Prop} {a : Option Addr} {len cap : Nat} {L : List Ent} (h : EList w F a len cap L) : EList w (fun b => b < w.heap.size) a len cap L := h.mono fun _ hb _ => hb
theorem ents_empty (w : World) {H : Nat} (hH : w.heap.size = H) : (w.alloc (.cells #[] 47)).ownsRow H 47 6 (.slice (some ⟨H, 0, none⟩) 0 0) 0 (ents []) := by
  subst hH
  exact World.ownsRow_made (base := w.heap.size) (e := 47) (size := 6) w #[] 0 (Nat.le_refl _) (by unfold maxLen; decide) rfl
theorem e_owns_drew {w : World} {B sz n : Nat} {t : TypeId} {v : Value} {xs : List Value} (h : w.ownsRow B t sz v n xs) : w.drew.ownsRow B t sz v n xs := by
  refine h.kept (row := none) ⟨rfl, rfl, rfl, Nat.le_refl _, fun _ _ _ => rfl⟩ ?_
  cases v.ownBlock <;> simp
theorem sm_setRow (w : World) (x : Nat) (cs : Array Value) : w.grownBy (w.setRow x cs) (some x) :=
  ⟨rfl, rfl, rfl, Nat.le_of_eq (by simp [World.setRow]), fun i _ hne => setRow_other w x i cs (fun e => hne (by rw [e]))⟩
theorem EList.taken {w : World} {F : Nat → Prop} {a : Option Addr} {len cap : Nat} {L : List Ent} (h : EList w F a len cap L) (k : Nat) (hk : k ≤ len) : EList w F a k cap (L.take k) := by
  have hlen := h.length
  rcases h with ⟨h1, rfl, h3, rfl⟩ | ⟨x, h1, h2, h3, h4, h5, h6, h7⟩
  · exact .inl ⟨h1, by omega, h3, by simp⟩
  · refine .inr ⟨x, h1, by omega, h3, by rw [List.length_take]; omega, h5, h6, fun j u hu => h7 j u ?_⟩
    rw [ents_take] at hu
    have hj := (List.getElem?_eq_some_iff.1 hu).1
    rw [List.length_take] at hj
    rwa [List.getElem?_take, if_pos (by omega)] at hu
theorem EList.dropped {w : World} {F : Nat → Prop} {x : Addr} {len cap : Nat} {L : List Ent} (h : EList w F (some x) len cap L) (k : Nat) (hk : k ≤ len) : EList w F (if cap = k then some x else some (x.add (k * 6))) (len - k) (cap - k) (L.drop k) := by
  have hlen := h.length
  rcases h with ⟨_, rfl, rfl, rfl⟩ | ⟨y, h1, h2, h3, h4, h5, h6, h7⟩
  · obtain rfl : k = 0 := by omega
    rw [if_pos rfl]
    exact .inl ⟨trivial, rfl, rfl, rfl⟩
  · obtain rfl := Option.some.inj h1
    by_cases hc : cap = k
    · rw [if_pos hc]
      refine .inr ⟨x, rfl, by omega, by omega, by rw [List.length_drop]; omega, h5, h6, fun j u hu => ?_⟩
      rw [List.drop_of_length_le (by omega)] at hu
      simp [ents] at hu
    · rw [if_neg hc]
      refine .inr ⟨_, rfl, by omega, by omega, by rw [List.length_drop]; omega, by rw [ent_add_block]; exact h5, by rw [ent_add_block]; exact h6, fun j u hu => ?_⟩
      rw [ents_drop, List.getElem?_drop] at hu
      rw [Addr.add_add]
      exact h7 _ u hu
end Go.Proofs.Ythhggiifbldaeaa.Ents

/- The walk of the document's Relocate. -/
namespace Go.Proofs.Ythhggiifbldaeaa.Ents
open Go.RowKit Plan EntMath
/-- what a function that gives a list and a yes or no leaves -/
def RelPost (w : World) (F : Nat → Prop) (L : List Ent) (B : Bool) (r : Ending) (w' : World) : Prop :=
  ∃ a len cap, r = .returned (.tuple #[.slice a len cap, .bool B]) ∧ EList w' (Plus F w.heap.size) a len cap L ∧ Below w.heap.size w w'
theorem rel_a {L : List Ent} {b v fz fo tz to m : Int} (h : validB L = false) : relocL L b v fz fo tz to m = [] ∧ moves L b v fz fo tz to m = false := by
  unfold relocL moves
  rw [find_invalid h]
  simp [h]
theorem rel_no {L : List Ent} {b v fz fo tz to m : Int} (h : validB L = true) (hm : moves L b v fz fo tz to m = false) : relocL L b v fz fo tz to m = L := by
  unfold relocL
  rw [if_pos h, if_neg (by rw [hm]; decide)]
theorem rel_none {L : List Ent} {b v fz fo tz to m : Int} (h : findE L b = none) : moves L b v fz fo tz to m = false := by
  unfold moves
  rw [h]
theorem rel_some {L : List Ent} {b v fz fo tz to m : Int} {y : Ent} (h : findE L b = some y) : moves L b v fz fo tz to m = true ↔ y.version = v ∧ y.zone = fz ∧ y.offset = fo ∧ 0 ≤ tz ∧ 0 ≤ to ∧ 0 ≤ m ∧ m ≤ 255 := by
  unfold moves
  rw [h]
  simp [Bool.and_eq_true, and_assoc]
theorem rel_yes {L : List Ent} {b v fz fo tz to m : Int} {y : Ent} (h : validB L = true) (hy : lookE L b = some y) (hm : moves L b v fz fo tz to m = true) : relocL L b v fz fo tz to m = L.set (place L b) (moved y tz to m) := by
  have hb := look_block hy
  unfold relocL
  rw [if_pos h, if_pos hm, hy]
  have := ins_set (L := L) (moved y tz to m) y (by show lookE L y.block = some y; rw [hb]; exact hy) (valid_iff.1 h).2
  show ins L (moved y tz to m) = _
  rw [← this]
  show L.set (place L y.block) _ = _
  rw [hb]
theorem e_owns_on {w w' : World} {B sz n : Nat} {t : TypeId} {v : Value} {xs : List Value} (h : w.ownsRow B t sz v n xs) (hb : Below w.heap.size w w') : w'.ownsRow B t sz v n xs := by
  refine h.kept (row := none) ⟨hb.os, hb.tape, hb.output, hb.size, fun i hi _ => hb.block i hi⟩ ?_
  cases v.ownBlock <;> simp
theorem e_owns_one {w : World} {B g n cap : Nat} {t : TypeId} {C : List Value} (h : w.ownsRow B t 6 (.slice (some ⟨g, 0, none⟩) n cap) n C) {j : Nat} (hj : j < C.length) : (∃ u, w.cell? ⟨g, j, none⟩ = some u) ∧ w.frozen? ⟨g, j, none⟩ = false := by
  constructor
  · have := h.cells (g := g) rfl j C[j] (List.getElem?_eq_getElem _)
    rw [Addr.add_lit, Nat.zero_add] at this
    exact ⟨_, this⟩
  · rcases h.2 with ⟨h, _⟩ | ⟨g', cap', cur, hv, hb, hg, _⟩
    · cases h
    · cases hv
      simp [World.frozen?, hg]
theorem e_owns_at {w : World} {B g n cap k : Nat} {L : List Ent} (h : w.ownsRow B 47 6 (.slice (some ⟨g, 0, none⟩) n cap) n (ents L)) (hl : L.length = n) (hk : k < n) :
    ((∃ u, w.cell? ⟨g, k * 6 + 3, none⟩ = some u) ∧ w.frozen? ⟨g, k * 6 + 3, none⟩ = false) ∧ ((∃ u, w.cell? ⟨g, k * 6 + 4, none⟩ = some u) ∧ w.frozen? ⟨g, k * 6 + 4, none⟩ = false) ∧ ((∃ u, w.cell? ⟨g, k * 6 + 5, none⟩ = some u) ∧ w.frozen? ⟨g, k * 6 + 5, none⟩ = false) := by
  have hC : (ents L).length = n * 6 := by rw [ents_length, hl]
  exact ⟨e_owns_one h (by omega), e_owns_one h (by omega), e_owns_one h (by omega)⟩
theorem e_owns_cell {w : World} {B sz g n cap : Nat} {t : TypeId} {C : List Value} (h : w.ownsRow B t sz (.slice (some ⟨g, 0, none⟩) n cap) n C) (j : Nat) (u : Value) :
    (w.setCell ⟨g, j, none⟩ u).ownsRow B t sz (.slice (some ⟨g, 0, none⟩) n cap) n (C.set j u) := by
  obtain ⟨h1, h2⟩ := h
  rcases h2 with ⟨h, _⟩ | ⟨g', cap', cur, hv, hb, hg, k1, k2, k3, k4⟩
  · cases h
  · cases hv
    refine ⟨by rw [List.length_set]; exact h1, .inr ⟨g, cap, cur.setIfInBounds j u, rfl, hb, ?_, k1, k2, by simpa using k3, ?_⟩⟩
    · rw [setCell_eq_setRow w g j cur t (0, 0) u hg]
      exact setRow_heap w g cur _ t (0, 0) hg
    · rw [Array.toList_setIfInBounds, List.take_set, k4]
theorem ents_moved {L : List Ent} {k : Nat} {y : Ent} (h : L[k]? = some y) (tz to m : Int) : ents (L.set k (moved y tz to m)) = (((ents L).set (k * 6 + 4) (.int .i64 tz)).set (k * 6 + 5) (.int .i64 to)).set (k * 6 + 3) (.int .i64 m) := by
  induction L generalizing k with
  | nil => cases h
  | cons x L ih =>
    cases k with
    | zero =>
      obtain rfl := Option.some.inj h
      simp [ents_cons, entC, moved]
    | succ k =>
      have hs : ∀ (M : List Value) j u, (entC x ++ M).set (j + 6) u = entC x ++ M.set j u := fun M j u => by simp [entC]
      rw [List.set_cons_succ, ents_cons, ents_cons, ih h]
      rw [show (k + 1) * 6 + 4 = (k * 6 + 4) + 6 by omega, hs, show (k + 1) * 6 + 5 = (k * 6 + 5) + 6 by omega, hs, show (k + 1) * 6 + 3 = (k * 6 + 3) + 6 by omega, hs]
theorem place_row {w : World} {g : Nat} {a b : Value} {t : TypeId} {fr : Nat × Nat} (h : w.heap[g]? = some (.cells #[a, b] t fr)) : w.cell? ⟨g, 0, none⟩ = some a ∧ w.cell? ⟨g, 1, none⟩ = some b := ⟨cell_of_row _ _ 0 _ _ _ h, cell_of_row _ _ 1 _ _ _ h⟩
end Go.Proofs.Ythhggiifbldaeaa.Ents

/- The walks of the document's Drop and Same. -/
namespace Go.Proofs.Ythhggiifbldaeaa.Ents
open Go.RowKit Plan EntMath
/-- what Drop leaves -/
def DropPost (w : World) (F : Nat → Prop) (L M : List Ent) (r : Ending) (w' : World) : Prop :=
  ∃ a n c b m d, r = .returned (.tuple #[.slice a n c, .slice b m d]) ∧ EList w' (Plus F w.heap.size) a n c L ∧ EList w' (Plus F w.heap.size) b m d M ∧ Below w.heap.size w w'
theorem append_ent {w : World} {ops : Array Oper} {rest : List Oper} {o : Oper} {a : Act} {Q : Exit → Act → World → Prop} (hgd : o.guard = none) (s x : Operand)
    (ho : o.op = .call { callee := .builtin .append, args := #[s, x], argTypes := #[50, 50] })
    (base : Nat) (v : Value) (m0 : Nat) (M : List Ent) (hs : a.eval s = v) (hown : w.ownsRow base 47 6 v m0 (ents M)) (g : Nat) (e : Ent) (hx : a.eval x = .slice (some ⟨g, 0, none⟩) 1 1) (hg : w.heap[g]? = some (entRow e.block e.kind e.version e.move e.zone e.offset)) (hm : m0 ≤ 900000) (hbase : base ≤ w.heap.size)
    (h : ∀ g' c' w', w'.ownsRow base 47 6 (.slice (some ⟨g', 0, none⟩) (m0 + 1) c') (m0 + 1) (ents (M ++ [e])) → w.grownBy w' v.ownBlock → (v.ownBlock = some g' ∨ g' = w.heap.size) → wpList Try.prog ops Q rest (a.put o.dst (.slice (some ⟨g', 0, none⟩) (m0 + 1) c')) w') : wpList Try.prog ops Q (o :: rest) a w := by
  obtain ⟨i1, hi1, hy0, hy1, hy2⟩ := info_parts e_info
  have hL := (elist_one hg).news
  refine wpList_append_lies w hgd s x 50 ho base 47 i1 _ 6 48 Try.underlying50 hi1 hy0 hy1 hy2 rfl (by decide) v m0 (ents M) hs hown ⟨g, 0, none⟩ 1 1 (ents [e]) hx rfl hL (ents_flat _) (by decide) (by unfold maxLen; omega) (by omega) hbase _ rfl ?_
  intro g' c' w' h1 h2 h3 _
  rw [← ents_append] at h1
  exact h g' c' w' h1 h2 h3
theorem take_next {L : List Ent} {j : Nat} {e : Ent} (h : L[j]? = some e) : L.take (j + 1) = L.take j ++ [e] := by
  rw [List.take_add_one, h]
  rfl
theorem filter_next {L : List Ent} {j : Nat} {e : Ent} (h : L[j]? = some e) (p : Ent → Bool) : (L.take (j + 1)).filter p = (L.take j).filter p ++ (if p e = true then [e] else []) := by
  rw [take_next h, List.filter_append]
  congr 1
  simp only [List.filter_cons, List.filter_nil]
/-- two lists of the call's own in different blocks -/
def Apart (v u : Value) : Prop := ∀ b, v.ownBlock = some b → u.ownBlock = some b → False
theorem Apart.symm {v u : Value} (h : Apart v u) : Apart u v := fun b h1 h2 => h b h2 h1
theorem owns_apart {w w' : World} {B sz n : Nat} {t : TypeId} {v u : Value} {xs : List Value} (h : w.ownsRow B t sz v n xs) (hap : Apart v u) (hg : w.grownBy w' u.ownBlock) : w'.ownsRow B t sz v n xs := by
  refine h.kept hg ?_
  cases hv : v.ownBlock with
  | none => exact .inl rfl
  | some b => exact .inr (fun e => hap b hv e.symm)
theorem apart_next {w : World} {B sz n n' c' g H : Nat} {t : TypeId} {v u : Value} {xs : List Value} (hv : w.ownsRow B t sz v n xs) (hap : Apart v u) (hat : u.ownBlock = some g ∨ g = H) (hH : w.heap.size ≤ H) : Apart v (.slice (some ⟨g, 0, none⟩) n' c') := by
  intro b hb hb2
  have e : g = b := Option.some.inj (show some g = some b from hb2)
  subst e
  rcases hat with h | h
  · exact hap _ hb h
  · have := (hv.lt g hb).2
    omega
end Go.Proofs.Ythhggiifbldaeaa.Ents

/- The walk of the document's Same, for equal lists. -/
namespace Go.Proofs.Ythhggiifbldaeaa.Ents
open Go.RowKit Plan EntMath
end Go.Proofs.Ythhggiifbldaeaa.Ents

/- Boxes of a walk beside dice that it rolled. -/
namespace Go.Proofs.Ythhggiifbldaeaa.Ents
open Go.RowKit Plan
theorem bxd_row (w : World) (x : Nat) (cs : Array Value) : w.grownBy (w.setRow x cs) (some x) :=
  ⟨rfl, rfl, rfl, Nat.le_of_eq (by simp [World.setRow]), fun i _ hne => setRow_other w x i cs (fun e => hne (by rw [e]))⟩
theorem bxd_dice {W : World} {base q X : Nat} {L : List Int} {k : Nat} (h : Dice W base q L k) (hX : X < base ∨ q < X) (cs : Array Value) : Dice (W.setRow X cs) base q L k := by
  have hg := bxd_row W X cs
  have hlt := dice_lt h
  obtain ⟨v, hr, hown, hne, hbase⟩ := h
  refine ⟨v, (hg.block q hlt (fun e => by have := Option.some.inj e; omega)).trans hr, hown.kept hg (.inr fun e => ?_), hne, hbase⟩
  have h1 := (hown.lt X e).1
  have h2 := hne X e
  omega
theorem dice_far' {w w' : World} {base g : Nat} {o : Option Nat} {zs : List Int} {k : Nat} (h : Dice w base g zs k) (hg : w.grownBy w' o) (hx : ∀ z, o = some z → g < z) : Dice w' base g zs k := by
  have hlt := dice_lt h
  obtain ⟨v, hr, hown, hne, hbase⟩ := h
  exact ⟨v, (hg.block g hlt (fun e => by have := hx _ e.symm; omega)).trans hr, hown.kept hg (by
    cases hv : v.ownBlock with
    | none => exact .inl rfl
    | some x => exact .inr fun e => by have h1 := hne x hv; have h2 := hx x e.symm; omega), hne, hbase⟩
structure BxD (w W : World) (B : List (Nat × Obj)) (base q : Nat) (L : List Int) (k : Nat) : Prop where
  bx : Bxs w W B
  dd : Dice W base q L k
  lo : w.heap.size ≤ base
  ap : ∀ x ∈ B, x.1 < base ∨ q < x.1
section
variable {w W W' : World} {B : List (Nat × Obj)} {base q : Nat} {L : List Int} {k k' : Nat}
theorem BxD.roll {q : Nat} (K : Bxs w W B) (hd : Dice W' W.heap.size q L k) (h : Below W.heap.size W W') : BxD w W' B W.heap.size q L k := ⟨K.on h, hd, K.hb.size, fun _ hx => .inl (K.lt hx)⟩
theorem BxD.hb (K : BxD w W B base q L k) : Below w.heap.size w W := K.bx.hb
theorem BxD.get (K : BxD w W B base q L k) (i : Nat) {g : Nat} {o : Obj} (h : B[i]? = some (g, o)) : W.heap[g]? = some o := K.bx.get i h
theorem BxD.on (K : BxD w W B base q L k) (h : Below W.heap.size W W') : BxD w W' B base q L k := ⟨K.bx.on h, dice_on K.dd h (Nat.le_refl _), K.lo, K.ap⟩
theorem BxD.drew (K : BxD w W B base q L k) : BxD w W.drew B base q L k := K.on (Below.refl _ _).drew
theorem BxD.al' (K : BxD w W B base q L k) (o : Obj) : BxD w (W.alloc o) B base q L k := K.on ((Below.refl _ _).alloc (Nat.le_refl _) o)
theorem BxD.al (K : BxD w W B base q L k) (o : Obj) : BxD w (W.alloc o) ((W.heap.size, o) :: B) base q L k :=
  ⟨K.bx.al o, (K.al' o).dd, K.lo, fun x hx => by
    rcases List.mem_cons.1 hx with rfl | hx
    · exact .inr (dice_lt K.dd)
    · exact K.ap x hx⟩
theorem BxD.ne (K : BxD w W B base q L k) {x : Nat × Obj} (h : x ∈ B) : x.1 ≠ q := by
  have h1 := K.ap x h
  have h2 := dice_base K.dd
  omega
theorem BxD.next (K : BxD w W B base q L k) (hd : Dice W' base q L k') (hw : W.grownBy W' (some q)) : BxD w W' B base q L k' :=
  ⟨K.bx.grown hw (fun z hz => by obtain rfl := Option.some.inj hz; exact ⟨Nat.le_trans K.lo (dice_base K.dd), fun x hx => K.ne hx⟩), hd, K.lo, K.ap⟩
theorem BxD.put (K : BxD w W B base q L k) (i : Nat) {g : Nat} {cs cs' : Array Value} {t : TypeId} (h : B[i]? = some (g, .cells cs t (0, 0))) {B' : List (Nat × Obj)} (hB : B' = B.set i (g, .cells cs' t (0, 0))) : BxD w (W.setRow g cs') B' base q L k := by
  have hg := K.ap _ (List.mem_of_getElem? h)
  refine ⟨K.bx.put i h hB, bxd_dice K.dd hg _, K.lo, fun x hx => ?_⟩
  subst hB
  rcases List.mem_or_eq_of_mem_set hx with hx | rfl
  · exact K.ap x hx
  · exact hg
/-- a list that the walk owns grows -/
theorem BxD.grown {o : Option Nat} (K : BxD w W B base q L k) (h : W.grownBy W' o) (ho : ∀ z, o = some z → q < z ∧ ∀ x ∈ B, x.1 ≠ z) : BxD w W' B base q L k :=
  ⟨K.bx.grown h (fun z hz => ⟨by have := (ho z hz).1; have := K.lo; have := dice_base K.dd; omega, (ho z hz).2⟩), dice_far' K.dd h (fun z hz => (ho z hz).1), K.lo, K.ap⟩
end
end Go.Proofs.Ythhggiifbldaeaa.Ents

/- The walks of the program's possible, blockOf, of the comparison and of the closure that index hands on. -/
namespace Go.Proofs.Ythhggiifbldaeaa.Ents
open Go.RowKit Plan EntMath
def cmpI (x y : Int) : Int := if x < y then -1 else if y < x then 1 else 0
theorem e_i {a b : Int} (h : a = b) : Ending.returned (.int .i64 a) = .returned (.int .i64 b) := by rw [h]
set_option maxHeartbeats 1000000 in
theorem isNaN_any (x : Int) (w : World) :
    Calls Try.prog 43 #[.int .i64 x] w fun r w' => r = .returned (.bool false) ∧ w' = w := by
  go_enter Try.func43, Try.ntmps43
  go_wp2
  go_ret
  exact ⟨by first | rfl | simp, rfl⟩
set_option maxHeartbeats 1000000 in
theorem compare_any (x y : Int) (w : World) :
    Calls Try.prog 29 #[.int .i64 x, .int .i64 y] w fun r w' => r = .returned (.int .i64 (cmpI x y)) ∧ w' = w := by
  have hc : cmpI x y = if x < y then -1 else if y < x then 1 else 0 := rfl
  generalize cmpI x y = C at *
  have HC := Lib.hid hc
  clear hc
  have h1 := Lib.hid (isNaN_any x)
  have h2 := Lib.hid (isNaN_any y)
  go_enter Try.func29, Try.ntmps29
  go_wp2_with (first
    | (go_at_call 43; ((with_reducible refine (h1.out _).mono ?_); rintro e w1 ⟨rfl, rfl⟩))
    | (go_at_call 43; ((with_reducible refine (h2.out _).mono ?_); rintro e w1 ⟨rfl, rfl⟩)))
  all_goals go_ret
  all_goals exact ⟨e_i (by rw [HC.out]; first | (rw [if_pos (by omega)]; done) | (rw [if_neg (by omega), if_pos (by omega)]; done) | (rw [if_neg (by omega), if_neg (by omega)]; done)), rfl⟩
theorem one_cell {w : World} {g : Nat} {a : Value} {t : TypeId} {fr : Nat × Nat} (h : w.heap[g]? = some (.cells #[a] t fr)) : w.cell? ⟨g, 0, none⟩ = some a := cell_of_row _ _ 0 _ _ _ h
end Go.Proofs.Ythhggiifbldaeaa.Ents
