/- Texts that belong together, part 5. -/
import Derived.Test.YtkamadeekkccgaaPack4
import Derived.Laws.AppendOwn
import Derived.Laws.AppendOwnNone
import Derived.Deep.MidRow

/- Appends to a list of entries that the call owns: a list, one entry; in a walk and in a region that draws its order. -/
namespace Go.Proofs.Ytkamadeekkccgaa.Ents
open Go.RowKit Plan EntMath
theorem e_grown (w : World) (r : Option Nat) : w.grownBy w r := ⟨rfl, rfl, rfl, Nat.le_refl _, fun _ _ _ => rfl⟩
theorem EList.news {w : World} {F : Nat → Prop} {ad : Addr} {len cap : Nat} {L : List Ent} (h : EList w F (some ad) len cap L) : ∀ j u, (ents L)[j]? = some u → w.cell? (ad.add j) = some u := by
  rcases h with ⟨_, _, _, rfl⟩ | ⟨x, h1, _, _, _, _, _, h7⟩
  · intro j u hu
    simp [ents] at hu
  · obtain rfl := Option.some.inj h1
    exact h7
theorem EList.none {w : World} {F : Nat → Prop} {len cap : Nat} {L : List Ent} (h : EList w F none len cap L) : len = 0 ∧ cap = 0 ∧ L = [] := by
  rcases h with ⟨_, h⟩ | ⟨x, h1, _⟩
  · exact h
  · cases h1
end Go.Proofs.Ytkamadeekkccgaa.Ents

/- The walk of the document's Install. -/
namespace Go.Proofs.Ytkamadeekkccgaa.Ents
open Go.RowKit Plan EntMath
theorem inst_a {L : List Ent} {e : Ent} (h : validB L = false) : installL L e = [] ∧ installE L e = zeroE ∧ newer L e = false := by
  unfold installL installE newer
  simp [h]
theorem inst_b {L : List Ent} {e : Ent} (h : validB L = true) (h2 : okE e = false) : installL L e = L ∧ installE L e = zeroE ∧ newer L e = false := by
  unfold installL installE newer
  simp [h, h2]
theorem inst_c {L : List Ent} {e x : Ent} (h : validB L = true) (h2 : okE e = true) (hx : lookE L e.block = some x) (hv : e.version ≤ x.version) : installL L e = L ∧ installE L e = x ∧ newer L e = false := by
  have hd : ¬ x.version < e.version := by omega
  unfold installL installE newer
  simp [h, h2, hx, hd]
theorem inst_d {L : List Ent} {e : Ent} (h : validB L = true) (h2 : okE e = true) (hx : lookE L e.block = none) : installL L e = (L.take (place L e.block) ++ [e]) ++ L.drop (place L e.block) ∧ installE L e = zeroE ∧ newer L e = true := by
  have hi := ins_place e hx (valid_iff.1 h).2
  have hn : newer L e = true := by unfold newer; simp [h, h2, hx]
  refine ⟨?_, ?_, hn⟩
  · unfold installL; rw [if_pos h, if_pos hn, ← hi]; simp
  · unfold installE; rw [if_pos ⟨h, h2⟩, hx]; rfl
theorem inst_e {L : List Ent} {e x : Ent} (h : validB L = true) (h2 : okE e = true) (hx : lookE L e.block = some x) (hv : x.version < e.version) : installL L e = (L.take (place L e.block) ++ [e]) ++ L.drop (place L e.block + 1) ∧ installE L e = x ∧ newer L e = true := by
  have hi := ins_over e x hx (valid_iff.1 h).2
  have hn : newer L e = true := by unfold newer; simp [h, h2, hx, hv]
  refine ⟨?_, ?_, hn⟩
  · unfold installL; rw [if_pos h, if_pos hn, ← hi]; simp
  · unfold installE; rw [if_pos ⟨h, h2⟩, hx]; rfl
/-- what a function that gives a list, an entry and a yes or no leaves -/
def InstPost (w : World) (F : Nat → Prop) (L : List Ent) (E : Ent) (B : Bool) (r : Ending) (w' : World) : Prop :=
  ∃ a len cap, r = .returned (.tuple #[.slice a len cap, entV E, .bool B]) ∧ EList w' (Plus F w.heap.size) a len cap L ∧ Below w.heap.size w w'
/-- a plain result, a struct and a plain one -/
theorem results_tct {P : Program} {fn : Func} {p q r : Tmp} {ty : TypeId} (h : fn.results = #[.tmp p, .cell q ty, .tmp r]) (tmps : Array Value) (w : World) (g : Nat) (t : TypeId) (cs : Array Value) (fr : Nat × Nat) (d : TypeDesc)
    (hp : tmps.getD q undef = .pointer (some ⟨g, 0, none⟩)) (hg : w.heap[g]? = some (.cells cs t fr))
    (hu : P.underlying ty = some d) (hd : (match d with | .struct _ | .array _ _ => true | _ => false) = true) (hi : (P.info? ty).map (·.size) = some cs.size) :
    (results fn tmps).run P w = .ok (.tuple #[tmps.getD p undef, .agg cs, tmps.getD r undef]) w := by
  have hp' : tmps[q]?.getD undef = .pointer (some ⟨g, 0, none⟩) := by simpa using hp
  simp [results, h, hp', asAddr, run_loadVar_row w g t ty cs fr d hg hu hd hi]
theorem EList.low {w : World} {F : Nat → Prop} {a : Option Addr} {len cap : Nat} {L : List Ent} (h : EList w F a len cap L) : EList w (fun b => b < w.heap.size) a len cap L := h.mono fun _ hb _ => hb
theorem e_owns_drew {w : World} {B sz n : Nat} {t : TypeId} {v : Value} {xs : List Value} (h : w.ownsRow B t sz v n xs) : w.drew.ownsRow B t sz v n xs := by
  refine h.kept (row := none) ⟨rfl, rfl, rfl, Nat.le_refl _, fun _ _ _ => rfl⟩ ?_
  cases v.ownBlock <;> simp
theorem sm_setRow (w : World) (x : Nat) (cs : Array Value) : w.grownBy (w.setRow x cs) (some x) :=
  ⟨rfl, rfl, rfl, Nat.le_of_eq (by simp [World.setRow]), fun i _ hne => setRow_other w x i cs (fun e => hne (by rw [e]))⟩
theorem EList.taken {w : World} {F : Nat → Prop} {a : Option Addr} {len cap : Nat} {L : List Ent} (h : EList w F a len cap L) (k : Nat) (hk : k ≤ len) : EList w F a k cap (L.take k) := by
  have hlen := h.length
  rcases h with ⟨h1, rfl, h3, rfl⟩ | ⟨x, h1, h2, h3, h4, h5, h6, h7⟩
  · exact .inl ⟨h1, by omega, h3, by simp⟩
  · refine .inr ⟨x, h1, by omega, h3, by rw [List.length_take]; omega, h5, h6, fun j u hu => h7 j u ?_⟩
    rw [ents_take] at hu
    have hj := (List.getElem?_eq_some_iff.1 hu).1
    rw [List.length_take] at hj
    rwa [List.getElem?_take, if_pos (by omega)] at hu
theorem EList.dropped {w : World} {F : Nat → Prop} {x : Addr} {len cap : Nat} {L : List Ent} (h : EList w F (some x) len cap L) (k : Nat) (hk : k ≤ len) : EList w F (if cap = k then some x else some (x.add (k * 6))) (len - k) (cap - k) (L.drop k) := by
  have hlen := h.length
  rcases h with ⟨_, rfl, rfl, rfl⟩ | ⟨y, h1, h2, h3, h4, h5, h6, h7⟩
  · obtain rfl : k = 0 := by omega
    rw [if_pos rfl]
    exact .inl ⟨trivial, rfl, rfl, rfl⟩
  · obtain rfl := Option.some.inj h1
    by_cases hc : cap = k
    · rw [if_pos hc]
      refine .inr ⟨x, rfl, by omega, by omega, by rw [List.length_drop]; omega, h5, h6, fun j u hu => ?_⟩
      rw [List.drop_of_length_le (by omega)] at hu
      simp [ents] at hu
    · rw [if_neg hc]
      refine .inr ⟨_, rfl, by omega, by omega, by rw [List.length_drop]; omega, by rw [ent_add_block]; exact h5, by rw [ent_add_block]; exact h6, fun j u hu => ?_⟩
      rw [ents_drop, List.getElem?_drop] at hu
      rw [Addr.add_add]
      exact h7 _ u hu
end Go.Proofs.Ytkamadeekkccgaa.Ents

/- The walk of the document's Relocate. -/
namespace Go.Proofs.Ytkamadeekkccgaa.Ents
open Go.RowKit Plan EntMath
/-- what a function that gives a list and a yes or no leaves -/
def RelPost (w : World) (F : Nat → Prop) (L : List Ent) (B : Bool) (r : Ending) (w' : World) : Prop :=
  ∃ a len cap, r = .returned (.tuple #[.slice a len cap, .bool B]) ∧ EList w' (Plus F w.heap.size) a len cap L ∧ Below w.heap.size w w'
theorem rel_a {L : List Ent} {b v fz fo tz tu m : Int} (h : validB L = false) : relocL L b v fz fo tz tu m = [] ∧ moves L b v fz fo tz tu m = false := by
  unfold relocL moves
  rw [find_invalid h]
  simp [h]
theorem rel_no {L : List Ent} {b v fz fo tz tu m : Int} (h : validB L = true) (hm : moves L b v fz fo tz tu m = false) : relocL L b v fz fo tz tu m = L := by
  unfold relocL
  rw [if_pos h, if_neg (by rw [hm]; decide)]
theorem rel_none {L : List Ent} {b v fz fo tz tu m : Int} (h : findE L b = none) : moves L b v fz fo tz tu m = false := by
  unfold moves
  rw [h]
theorem rel_some {L : List Ent} {b v fz fo tz tu m : Int} {y : Ent} (h : findE L b = some y) : moves L b v fz fo tz tu m = true ↔ y.version = v ∧ y.zone = fz ∧ y.offset = fo ∧ 0 ≤ tz ∧ 0 ≤ tu ∧ 0 ≤ m ∧ m ≤ 255 := by
  unfold moves
  rw [h]
  simp [Bool.and_eq_true, and_assoc]
theorem rel_yes {L : List Ent} {b v fz fo tz tu m : Int} {y : Ent} (h : validB L = true) (hy : lookE L b = some y) (hm : moves L b v fz fo tz tu m = true) : relocL L b v fz fo tz tu m = L.set (place L b) (moved y tz tu m) := by
  have hb := look_block hy
  unfold relocL
  rw [if_pos h, if_pos hm, hy]
  have := ins_set (L := L) (moved y tz tu m) y (by show lookE L y.block = some y; rw [hb]; exact hy) (valid_iff.1 h).2
  show ins L (moved y tz tu m) = _
  rw [← this]
  show L.set (place L y.block) _ = _
  rw [hb]
theorem e_owns_on {w w' : World} {B sz n : Nat} {t : TypeId} {v : Value} {xs : List Value} (h : w.ownsRow B t sz v n xs) (hb : Below w.heap.size w w') : w'.ownsRow B t sz v n xs := by
  refine h.kept (row := none) ⟨hb.os, hb.tape, hb.output, hb.size, fun i hi _ => hb.block i hi⟩ ?_
  cases v.ownBlock <;> simp
theorem e_owns_one {w : World} {B g n cap : Nat} {t : TypeId} {C : List Value} (h : w.ownsRow B t 6 (.slice (some ⟨g, 0, none⟩) n cap) n C) {j : Nat} (hj : j < C.length) : (∃ u, w.cell? ⟨g, j, none⟩ = some u) ∧ w.frozen? ⟨g, j, none⟩ = false := by
  constructor
  · have := h.cells (g := g) rfl j C[j] (List.getElem?_eq_getElem _)
    rw [Addr.add_lit, Nat.zero_add] at this
    exact ⟨_, this⟩
  · rcases h.2 with ⟨h, _⟩ | ⟨g', cap', cur, hv, hb, hg, _⟩
    · cases h
    · cases hv
      simp [World.frozen?, hg]
theorem e_owns_cell {w : World} {B sz g n cap : Nat} {t : TypeId} {C : List Value} (h : w.ownsRow B t sz (.slice (some ⟨g, 0, none⟩) n cap) n C) (j : Nat) (u : Value) :
    (w.setCell ⟨g, j, none⟩ u).ownsRow B t sz (.slice (some ⟨g, 0, none⟩) n cap) n (C.set j u) := by
  obtain ⟨h1, h2⟩ := h
  rcases h2 with ⟨h, _⟩ | ⟨g', cap', cur, hv, hb, hg, k1, k2, k3, k4⟩
  · cases h
  · cases hv
    refine ⟨by rw [List.length_set]; exact h1, .inr ⟨g, cap, cur.setIfInBounds j u, rfl, hb, ?_, k1, k2, by simpa using k3, ?_⟩⟩
    · rw [setCell_eq_setRow w g j cur t (0, 0) u hg]
      exact setRow_heap w g cur _ t (0, 0) hg
    · rw [Array.toList_setIfInBounds, List.take_set, k4]
theorem ents_moved {L : List Ent} {k : Nat} {y : Ent} (h : L[k]? = some y) (tz tu m : Int) : ents (L.set k (moved y tz tu m)) = (((ents L).set (k * 6 + 4) (.int .i64 tz)).set (k * 6 + 5) (.int .i64 tu)).set (k * 6 + 3) (.int .i64 m) := by
  induction L generalizing k with
  | nil => cases h
  | cons x L ih =>
    cases k with
    | zero =>
      obtain rfl := Option.some.inj h
      simp [ents_cons, entC, moved]
    | succ k =>
      have hs : ∀ (M : List Value) j u, (entC x ++ M).set (j + 6) u = entC x ++ M.set j u := fun M j u => by simp [entC]
      rw [List.set_cons_succ, ents_cons, ents_cons, ih h]
      rw [show (k + 1) * 6 + 4 = (k * 6 + 4) + 6 by omega, hs, show (k + 1) * 6 + 5 = (k * 6 + 5) + 6 by omega, hs, show (k + 1) * 6 + 3 = (k * 6 + 3) + 6 by omega, hs]
theorem place_row {w : World} {g : Nat} {a b : Value} {t : TypeId} {fr : Nat × Nat} (h : w.heap[g]? = some (.cells #[a, b] t fr)) : w.cell? ⟨g, 0, none⟩ = some a ∧ w.cell? ⟨g, 1, none⟩ = some b := ⟨cell_of_row _ _ 0 _ _ _ h, cell_of_row _ _ 1 _ _ _ h⟩
end Go.Proofs.Ytkamadeekkccgaa.Ents

/- The walks of the document's Drop and Same. -/
namespace Go.Proofs.Ytkamadeekkccgaa.Ents
open Go.RowKit Plan EntMath
/-- what Drop leaves -/
def DropPost (w : World) (F : Nat → Prop) (L M : List Ent) (r : Ending) (w' : World) : Prop :=
  ∃ a n c b m d, r = .returned (.tuple #[.slice a n c, .slice b m d]) ∧ EList w' (Plus F w.heap.size) a n c L ∧ EList w' (Plus F w.heap.size) b m d M ∧ Below w.heap.size w w'
theorem take_next {L : List Ent} {j : Nat} {e : Ent} (h : L[j]? = some e) : L.take (j + 1) = L.take j ++ [e] := by
  rw [List.take_add_one, h]
  rfl
theorem filter_next {L : List Ent} {j : Nat} {e : Ent} (h : L[j]? = some e) (p : Ent → Bool) : (L.take (j + 1)).filter p = (L.take j).filter p ++ (if p e = true then [e] else []) := by
  rw [take_next h, List.filter_append]
  congr 1
  simp only [List.filter_cons, List.filter_nil]
/-- two lists of the call's own in different blocks -/
def Apart (v u : Value) : Prop := ∀ b, v.ownBlock = some b → u.ownBlock = some b → False
theorem Apart.symm {v u : Value} (h : Apart v u) : Apart u v := fun b h1 h2 => h b h2 h1
theorem owns_apart {w w' : World} {B sz n : Nat} {t : TypeId} {v u : Value} {xs : List Value} (h : w.ownsRow B t sz v n xs) (hap : Apart v u) (hg : w.grownBy w' u.ownBlock) : w'.ownsRow B t sz v n xs := by
  refine h.kept hg ?_
  cases hv : v.ownBlock with
  | none => exact .inl rfl
  | some b => exact .inr (fun e => hap b hv e.symm)
theorem apart_next {w : World} {B sz n n' c' g H : Nat} {t : TypeId} {v u : Value} {xs : List Value} (hv : w.ownsRow B t sz v n xs) (hap : Apart v u) (hat : u.ownBlock = some g ∨ g = H) (hH : w.heap.size ≤ H) : Apart v (.slice (some ⟨g, 0, none⟩) n' c') := by
  intro b hb hb2
  have e : g = b := Option.some.inj (show some g = some b from hb2)
  subst e
  rcases hat with h | h
  · exact hap _ hb h
  · have := (hv.lt g hb).2
    omega
end Go.Proofs.Ytkamadeekkccgaa.Ents

/- Lists of elements of any type (structs, numbers, strings) that lie in memory, in the blocks of a set, or that the call owns. -/
namespace Go.Proofs.Ytkamadeekkccgaa.Rws
open Go.RowKit Plan Ents
/-- an element's type, the list's type, the element's cells -/
structure Row (α : Type) where
  et : TypeId
  st : TypeId
  sz : Nat
  wide : Nat
  zero : Value
  c : α → List Value
structure Row.Ok {α : Type} (R : Row α) : Prop where
  len : ∀ e, (R.c e).length = R.sz
  flat : ∀ e, ∀ u ∈ R.c e, u.oneCell' = true
  pos : 0 < R.sz
  info : (Try.prog.info? R.et).map (fun i => (i.zero, i.size, i.bytes)) = some (some R.zero, R.sz, R.wide)
  zs : R.zero.cells.size = R.sz
  und : Try.prog.underlying R.st = some (.slice R.et)
  small : R.wide ≤ 1000
def Row.all {α : Type} (R : Row α) (L : List α) : List Value := L.flatMap R.c
section
variable {α : Type} {R : Row α}
theorem all_nil : R.all [] = [] := rfl
theorem all_append (L M : List α) : R.all (L ++ M) = R.all L ++ R.all M := by simp [Row.all]
theorem all_cons (e : α) (L : List α) : R.all (e :: L) = R.c e ++ R.all L := rfl
theorem all_one (e : α) : R.all [e] = R.c e := by simp [Row.all]
theorem all_length (hR : R.Ok) (L : List α) : (R.all L).length = L.length * R.sz := by
  induction L with
  | nil => simp [Row.all]
  | cons e L ih => rw [all_cons, List.length_append, ih, List.length_cons, hR.len, Nat.succ_mul]; omega
theorem all_get (hR : R.Ok) {L : List α} {i : Nat} {e : α} (h : L[i]? = some e) (k : Nat) (hk : k < R.sz) : (R.all L)[i * R.sz + k]? = (R.c e)[k]? := by
  induction L generalizing i with
  | nil => cases h
  | cons x L ih =>
    rw [all_cons]
    cases i with
    | zero =>
      obtain rfl := Option.some.inj h
      rw [Nat.zero_mul, Nat.zero_add, List.getElem?_append_left (by rw [hR.len]; exact hk)]
    | succ i =>
      rw [List.getElem?_append_right (by rw [hR.len, Nat.succ_mul]; omega), hR.len]
      have := ih (i := i) h
      rw [← this]
      congr 1
      rw [Nat.succ_mul]
      omega
theorem all_flat (hR : R.Ok) (L : List α) : ∀ u ∈ R.all L, u.oneCell' = true := by
  intro u hu
  obtain ⟨e, _, he⟩ := List.mem_flatMap.1 hu
  exact hR.flat e u he
theorem all_take (hR : R.Ok) (L : List α) (k : Nat) : R.all (L.take k) = (R.all L).take (k * R.sz) := by
  induction L generalizing k with
  | nil => simp [Row.all]
  | cons e L ih =>
    cases k with
    | zero => simp [Row.all]
    | succ k =>
      have hl := hR.len e
      rw [List.take_succ_cons, all_cons, all_cons, ih, List.take_append, List.take_of_length_le (l := R.c e) (by rw [Nat.succ_mul]; omega), hl, show (k + 1) * R.sz - R.sz = k * R.sz by rw [Nat.succ_mul]; omega]
theorem all_drop (hR : R.Ok) (L : List α) (k : Nat) : R.all (L.drop k) = (R.all L).drop (k * R.sz) := by
  induction L generalizing k with
  | nil => simp [Row.all]
  | cons e L ih =>
    cases k with
    | zero => simp [Row.all]
    | succ k =>
      have hl := hR.len e
      rw [List.drop_succ_cons, all_cons, ih, List.drop_append, List.drop_of_length_le (l := R.c e) (by rw [Nat.succ_mul]; omega), hl, List.nil_append, show (k + 1) * R.sz - R.sz = k * R.sz by rw [Nat.succ_mul]; omega]
/-- a list in memory -/
def TList (R : Row α) (w : World) (F : Nat → Prop) (a : Option Addr) (n c : Nat) (L : List α) : Prop :=
  (True ∧ n = 0 ∧ c = 0 ∧ L = []) ∨
  ∃ x, a = some x ∧ n ≤ c ∧ c ≤ maxLen ∧ L.length = n ∧ x.block < w.heap.size ∧ F x.block ∧ ∀ j u, (R.all L)[j]? = some u → w.cell? (x.add j) = some u
theorem TList.nil (w : World) (F : Nat → Prop) : TList R w F none 0 0 [] := .inl ⟨trivial, rfl, rfl, rfl⟩
variable {w w' : World} {F G : Nat → Prop} {a : Option Addr} {n c : Nat} {L : List α}
theorem TList.length (h : TList R w F a n c L) : L.length = n := by
  rcases h with ⟨_, rfl, _, rfl⟩ | ⟨x, _, _, _, h4, _⟩
  · rfl
  · exact h4
theorem TList.cap (h : TList R w F a n c L) : n ≤ c ∧ c ≤ maxLen := by
  rcases h with ⟨_, rfl, rfl, rfl⟩ | ⟨x, _, h2, h3, _⟩
  · exact ⟨Nat.le_refl _, Nat.zero_le _⟩
  · exact ⟨h2, h3⟩
theorem TList.on (h : TList R w F a n c L) (hw : Same F w w') : TList R w' F a n c L := by
  rcases h with h | ⟨x, h1, h2, h3, h4, h5, h6, h7⟩
  · exact .inl h
  · exact .inr ⟨x, h1, h2, h3, h4, Nat.lt_of_lt_of_le h5 hw.1, h6, fun j u hu => hw.cell (by rw [ent_add_block]; exact h6) (h7 j u hu)⟩
theorem TList.mono (h : TList R w F a n c L) (hFG : ∀ b, b < w.heap.size → F b → G b) : TList R w G a n c L := by
  rcases h with h | ⟨x, h1, h2, h3, h4, h5, h6, h7⟩
  · exact .inl h
  · exact .inr ⟨x, h1, h2, h3, h4, h5, hFG _ h5 h6, h7⟩
theorem TList.cut (h : TList R w F a n c L) : TList R w (fun b => F b ∧ b < w.heap.size) a n c L := h.mono fun _ hb hf => ⟨hf, hb⟩
theorem TList.low (h : TList R w F a n c L) : TList R w (fun b => b < w.heap.size) a n c L := h.mono fun _ hb _ => hb
theorem TList.same (h : TList R w F a n c L) (hb : Below w.heap.size w w') : TList R w' (fun b => b < w.heap.size) a n c L := h.low.on (Same.low hb)
theorem TList.at' (hR : R.Ok) (h : TList R w F a n c L) (i : Nat) (hi : i < n) : ∃ x e, a = some x ∧ L[i]? = some e ∧ ∀ k u, (R.c e)[k]? = some u → w.cell? (x.add (i * R.sz + k)) = some u := by
  have hl := h.length
  rcases h with ⟨_, rfl, _, _⟩ | ⟨x, h1, _, _, _, _, _, h7⟩
  · omega
  · have he : L[i]? = some (L[i]'(by omega)) := List.getElem?_eq_getElem _
    refine ⟨x, _, h1, he, fun k u hu => h7 _ u ?_⟩
    have hk : k < R.sz := by have := (List.getElem?_eq_some_iff.1 hu).1; rwa [hR.len] at this
    rw [all_get hR he k hk, hu]
theorem TList.some' (h : TList R w F a n c L) (hn : 0 < n) : ∃ x, a = some x ∧ x.block < w.heap.size ∧ F x.block ∧ ∀ j u, (R.all L)[j]? = some u → w.cell? (x.add j) = some u := by
  rcases h with ⟨_, rfl, _, _⟩ | ⟨x, h1, _, _, _, h5, h6, h7⟩
  · omega
  · exact ⟨x, h1, h5, h6, h7⟩
theorem TList.none (h : TList R w F none n c L) : n = 0 ∧ c = 0 ∧ L = [] := by
  rcases h with ⟨_, h⟩ | ⟨x, h1, _⟩
  · exact h
  · cases h1
theorem TList.news {x : Addr} (h : TList R w F (some x) n c L) : ∀ j u, (R.all L)[j]? = some u → w.cell? (x.add j) = some u := by
  rcases h with ⟨_, _, _, rfl⟩ | ⟨y, h1, _, _, _, _, _, h7⟩
  · intro j u hu
    simp [Row.all] at hu
  · obtain rfl := Option.some.inj h1
    exact h7
/-- the first elements of a list; those behind them -/
theorem TList.front (hR : R.Ok) (h : TList R w F a n c L) (k : Nat) (hk : k ≤ n) : TList R w F a k c (L.take k) := by
  have hl := h.length
  rcases h with ⟨_, rfl, rfl, rfl⟩ | ⟨x, h1, h2, h3, h4, h5, h6, h7⟩
  · obtain rfl : k = 0 := by omega
    exact .inl ⟨trivial, rfl, rfl, by simp⟩
  · refine .inr ⟨x, h1, by omega, h3, by rw [List.length_take]; omega, h5, h6, fun j u hu => h7 j u ?_⟩
    rw [all_take hR, List.getElem?_take] at hu
    split at hu
    · exact hu
    · cases hu
theorem TList.back (hR : R.Ok) {x : Addr} (h : TList R w F (some x) n c L) (k : Nat) (hk : k ≤ n) (hx : 0 < n) : TList R w F (some (x.add (k * R.sz))) (n - k) (c - k) (L.drop k) := by
  have hl := h.length
  rcases h with ⟨_, rfl, rfl, rfl⟩ | ⟨y, h1, h2, h3, h4, h5, h6, h7⟩
  · omega
  · obtain rfl := Option.some.inj h1
    refine .inr ⟨_, rfl, by omega, by omega, by rw [List.length_drop]; omega, by rw [ent_add_block]; exact h5, by rw [ent_add_block]; exact h6, fun j u hu => ?_⟩
    rw [all_drop hR, List.getElem?_drop] at hu
    rw [Addr.add_add]
    exact h7 _ u hu
/-- a list that the call owns is one that is read -/
theorem owns_list (hR : R.Ok) {B : Nat} {v : Value} (h : w.ownsRow B R.et R.sz v n (R.all L)) (hF : ∀ b, v.ownBlock = some b → F b) : ∃ a c, v = .slice a n c ∧ TList R w F a n c L := by
  have hp := hR.pos
  have hl : L.length = n := by have h1 := h.1; rw [all_length hR] at h1; exact Nat.eq_of_mul_eq_mul_right hp h1
  rcases h.2 with ⟨rfl, rfl⟩ | ⟨g, cap, cur, rfl, hb, hg, h1, h2, h3, h4⟩
  · obtain rfl : L = [] := List.length_eq_zero_iff.1 hl
    exact ⟨none, 0, rfl, .inl ⟨trivial, rfl, rfl, rfl⟩⟩
  · exact ⟨_, _, rfl, .inr ⟨_, rfl, h1, h2, hl, (Array.getElem?_eq_some_iff.1 hg).1, hF g rfl, fun j u hu => h.cells (g := g) rfl j u hu⟩⟩
theorem owns_len (hR : R.Ok) {B : Nat} {v : Value} (h : w.ownsRow B R.et R.sz v n (R.all L)) : L.length = n := by
  have h1 := h.1
  rw [all_length hR] at h1
  exact Nat.eq_of_mul_eq_mul_right hR.pos h1
theorem owns_some {B : Nat} {v : Value} {xs : List Value} (h : w.ownsRow B R.et R.sz v n xs) (hn : 0 < n) : ∃ g c, v = .slice (some ⟨g, 0, none⟩) n c ∧ B ≤ g ∧ g < w.heap.size := by
  rcases h.2 with ⟨_, h0⟩ | ⟨g, cap, cur, rfl, hb, hg, _⟩
  · omega
  · exact ⟨g, cap, rfl, hb, (Array.getElem?_eq_some_iff.1 hg).1⟩
/-- the cell of an element of a list of the call's own -/
theorem own_cell (hR : R.Ok) {B g : Nat} {j k : Nat} {e : α} {u : Value} (h : w.ownsRow B R.et R.sz (.slice (some ⟨g, 0, none⟩) n c) n (R.all L)) (hj : L[j]? = some e) (hk : (R.c e)[k]? = some u) : w.cell? ⟨g, j * R.sz + k, none⟩ = some u ∧ w.frozen? ⟨g, j * R.sz + k, none⟩ = false := by
  have hk' : k < R.sz := by have := (List.getElem?_eq_some_iff.1 hk).1; rwa [hR.len] at this
  constructor
  · have := h.cells (g := g) rfl (j * R.sz + k) u (by rw [all_get hR hj k hk', hk])
    rw [Addr.add_lit, Nat.zero_add] at this
    exact this
  · rcases h.2 with ⟨h, _⟩ | ⟨g', cap', cur, hv, hb, hg, _⟩
    · cases h
    · cases hv
      simp [World.frozen?, hg]
/-- a list without elements in a block of its own; one with none -/
theorem own_empty (R : Row α) (w : World) {H : Nat} (hH : w.heap.size = H) : (w.alloc (.cells #[] R.et)).ownsRow H R.et R.sz (.slice (some ⟨H, 0, none⟩) 0 0) 0 (R.all []) := by
  subst hH
  exact World.ownsRow_made (base := w.heap.size) (e := R.et) (size := R.sz) w #[] 0 (Nat.le_refl _) (by unfold maxLen; decide) (by simp)
theorem own_none (R : Row α) (w : World) (B : Nat) : w.ownsRow B R.et R.sz (.slice none 0 0) 0 (R.all []) := World.ownsRow_nil _ _ _ _
/-- an element in a block of its own -/
theorem list_one {g : Nat} {e : α} {fr : Nat × Nat} (h : w.heap[g]? = some (.cells (R.c e).toArray R.et fr)) : ∀ j u, (R.all [e])[j]? = some u → w.cell? ((⟨g, 0, none⟩ : Addr).add j) = some u := by
  intro j u hu
  rw [all_one] at hu
  rw [Addr.add_lit, Nat.zero_add]
  exact (cell_of_row w g j _ _ _ h).trans (by rw [List.getElem?_toArray]; exact hu)
/-- the append of one element -/
theorem append_one (hR : R.Ok) {ops : Array Oper} {rest : List Oper} {o : Oper} {a : Act} {Q : Exit → Act → World → Prop} (hgd : o.guard = none) (s x : Operand)
    (ho : o.op = .call { callee := .builtin .append, args := #[s, x], argTypes := #[R.st, R.st] })
    (base : Nat) (v : Value) (m0 : Nat) (M : List α) (hs : a.eval s = v) (hown : w.ownsRow base R.et R.sz v m0 (R.all M)) (g : Nat) (e : α) {fr : Nat × Nat} (hx : a.eval x = .slice (some ⟨g, 0, none⟩) 1 1) (hg : w.heap[g]? = some (.cells (R.c e).toArray R.et fr)) (hm : m0 ≤ 900000) (hbase : base ≤ w.heap.size)
    (h : ∀ g' c' w', w'.ownsRow base R.et R.sz (.slice (some ⟨g', 0, none⟩) (m0 + 1) c') (m0 + 1) (R.all (M ++ [e])) → w.grownBy w' v.ownBlock → (v.ownBlock = some g' ∨ g' = w.heap.size) → wpList Try.prog ops Q rest (a.put o.dst (.slice (some ⟨g', 0, none⟩) (m0 + 1) c')) w') : wpList Try.prog ops Q (o :: rest) a w := by
  obtain ⟨i1, hi1, hy0, hy1, hy2⟩ := info_parts hR.info
  have hsm := hR.small
  refine wpList_append_lies w hgd s x R.st ho base R.et i1 _ R.sz R.wide hR.und hi1 hy0 hy1 hy2 hR.zs hR.pos v m0 (R.all M) hs hown ⟨g, 0, none⟩ 1 1 (R.all [e]) hx (by rw [all_one, hR.len, Nat.one_mul]) (list_one hg) (all_flat hR _) (by decide) (by unfold maxLen; omega) (Nat.le_trans (Nat.mul_le_mul (show m0 + 1 ≤ 1000000 by omega) hsm) (by decide)) hbase _ rfl ?_
  intro g' c' w' h1 h2 h3 _
  rw [← all_append] at h1
  exact h g' c' w' h1 h2 h3
theorem wp_append_one (hR : R.Ok) {o : Oper} {a : Act} {K : Act → World → Prop} {Q : Exit → Act → World → Prop} (s x : Operand)
    (ho : o.op = .call { callee := .builtin .append, args := #[s, x], argTypes := #[R.st, R.st] })
    (base : Nat) (v : Value) (m0 : Nat) (M : List α) (hs : a.eval s = v) (hown : w.ownsRow base R.et R.sz v m0 (R.all M)) (g : Nat) (e : α) {fr : Nat × Nat} (hx : a.eval x = .slice (some ⟨g, 0, none⟩) 1 1) (hg : w.heap[g]? = some (.cells (R.c e).toArray R.et fr)) (hm : m0 ≤ 900000) (hbase : base ≤ w.heap.size)
    (h : ∀ g' c' w', w'.ownsRow base R.et R.sz (.slice (some ⟨g', 0, none⟩) (m0 + 1) c') (m0 + 1) (R.all (M ++ [e])) → w.grownBy w' v.ownBlock → (v.ownBlock = some g' ∨ g' = w.heap.size) → K (a.put o.dst (.slice (some ⟨g', 0, none⟩) (m0 + 1) c')) w') : o.wp Try.prog a w K Q := by
  obtain ⟨i1, hi1, hy0, hy1, hy2⟩ := info_parts hR.info
  have hsm := hR.small
  refine wp_append_lies w s x R.st ho base R.et i1 _ R.sz R.wide hR.und hi1 hy0 hy1 hy2 hR.zs hR.pos v m0 (R.all M) hs hown ⟨g, 0, none⟩ 1 1 (R.all [e]) hx (by rw [all_one, hR.len, Nat.one_mul]) (list_one hg) (all_flat hR _) (by decide) (by unfold maxLen; omega) (Nat.le_trans (Nat.mul_le_mul (show m0 + 1 ≤ 1000000 by omega) hsm) (by decide)) hbase _ rfl ?_
  intro g' c' w' h1 h2 h3 _
  rw [← all_append] at h1
  exact h g' c' w' h1 h2 h3
/-- the append of a list -/
theorem wp_append_list (hR : R.Ok) {o : Oper} {a : Act} {K : Act → World → Prop} {Q : Exit → Act → World → Prop} (s x : Operand)
    (ho : o.op = .call { callee := .builtin .append, args := #[s, x], argTypes := #[R.st, R.st] })
    (base : Nat) (v : Value) (m0 : Nat) (M : List α) (hs : a.eval s = v) (hown : w.ownsRow base R.et R.sz v m0 (R.all M)) (sa : Option Addr) (m c : Nat) (L : List α) (hx : a.eval x = .slice sa m c) (hl : TList R w F sa m c L) (hm : m0 + m ≤ 1000000) (hbase : base ≤ w.heap.size)
    (h : ∀ v' w', w'.ownsRow base R.et R.sz v' (m0 + m) (R.all (M ++ L)) → w.grownBy w' v.ownBlock → K (a.put o.dst v') w') : o.wp Try.prog a w K Q := by
  obtain ⟨i1, hi1, hy0, hy1, hy2⟩ := info_parts hR.info
  have hsm := hR.small
  cases sa with
  | none =>
    obtain ⟨rfl, rfl, rfl⟩ := hl.none
    have hrun := run_append_owned_none (P := Try.prog) (w := w) base R.st o.type R.et i1 R.sz hR.und hi1 v m0 (R.all M) hown
    unfold Oper.wp
    simp [execOp, ho, resolve, invoke, builtin, hs, hx, hrun, Result.andThen]
    exact h v w (by rw [List.append_nil]; exact hown) (e_grown _ _)
  | some ad =>
    refine wp_append_own w s x R.st ho base R.et i1 _ R.sz R.wide hR.und hi1 hy0 hy1 hy2 hR.zs hR.pos v m0 (R.all M) hs hown ad m c (R.all L) hx (by rw [all_length hR, hl.length]) hl.news (all_flat hR L) (by unfold maxLen; omega) (Nat.le_trans (Nat.mul_le_mul hm hsm) (by decide)) hbase ?_
    intro v' w' h1 h2 _
    rw [← all_append] at h1
    exact h v' w' h1 h2
theorem append_list (hR : R.Ok) {ops : Array Oper} {rest : List Oper} {o : Oper} {a : Act} {Q : Exit → Act → World → Prop} (hgd : o.guard = none) (s x : Operand)
    (ho : o.op = .call { callee := .builtin .append, args := #[s, x], argTypes := #[R.st, R.st] })
    (base : Nat) (v : Value) (m0 : Nat) (M : List α) (hs : a.eval s = v) (hown : w.ownsRow base R.et R.sz v m0 (R.all M)) (sa : Option Addr) (m c : Nat) (L : List α) (hx : a.eval x = .slice sa m c) (hl : TList R w F sa m c L) (hm : m0 + m ≤ 1000000) (hbase : base ≤ w.heap.size)
    (h : ∀ v' w', w'.ownsRow base R.et R.sz v' (m0 + m) (R.all (M ++ L)) → w.grownBy w' v.ownBlock → wpList Try.prog ops Q rest (a.put o.dst v') w') : wpList Try.prog ops Q (o :: rest) a w :=
  wpList_plain hgd fun _ hK => wp_append_list hR s x ho base v m0 M hs hown sa m c L hx hl hm hbase fun v' w' h1 h2 => hK _ _ (h v' w' h1 h2)
/-- where a list that the call owns grows, all else stays -/
theorem TList.grown {g : Option Nat} (h : TList R w F a n c L) (hg : w.grownBy w' g) (hF : ∀ b, g = some b → ¬ F b) : TList R w' F a n c L := by
  refine h.on ⟨hg.size, fun b hb hlt => hg.block b hlt (fun e => hF b e.symm hb)⟩
/-- cells put one after the other -/
def spliced (xs : List Value) : Nat → List Value → List Value
  | _, [] => xs
  | o, v :: r => spliced (xs.set o v) (o + 1) r
theorem spliced_cons (x : Value) (xs : List Value) (o : Nat) (vs : List Value) : spliced (x :: xs) (o + 1) vs = x :: spliced xs o vs := by
  induction vs generalizing xs o with
  | nil => rfl
  | cons v r ih => simp only [spliced, List.set_cons_succ]; rw [ih]
theorem spliced_front (xs ys vs : List Value) (o : Nat) : spliced (xs ++ ys) (xs.length + o) vs = xs ++ spliced ys o vs := by
  induction xs with
  | nil => simp
  | cons x xs ih => rw [List.cons_append, List.length_cons, show xs.length + 1 + o = xs.length + o + 1 by omega, spliced_cons, ih, List.cons_append]
theorem spliced_zero (xs ys vs : List Value) (h : xs.length = vs.length) : spliced (xs ++ ys) 0 vs = vs ++ ys := by
  induction vs generalizing xs with
  | nil => rw [List.length_eq_zero_iff.1 h]; rfl
  | cons v r ih =>
    match xs, h with
    | x :: xs, h =>
      simp only [List.cons_append, spliced, List.set_cons_zero]
      rw [spliced_cons, ih xs (by simpa using h)]
theorem all_set (hR : R.Ok) {k : Nat} (h : k < L.length) (e : α) : R.all (L.set k e) = spliced (R.all L) (k * R.sz) (R.c e) := by
  induction L generalizing k with
  | nil => cases h
  | cons x L ih =>
    cases k with
    | zero => rw [List.set_cons_zero, all_cons, all_cons, Nat.zero_mul, spliced_zero _ _ _ (by rw [hR.len, hR.len])]
    | succ k =>
      rw [List.set_cons_succ, all_cons, all_cons, ih (Nat.lt_of_succ_lt_succ h), show (k + 1) * R.sz = (R.c x).length + k * R.sz by rw [hR.len, Nat.succ_mul]; omega, spliced_front]
theorem owns_spliced {B sz g n cap : Nat} {t : TypeId} (vs : List Value) : ∀ {w : World} (o : Nat) {C : List Value}, w.ownsRow B t sz (.slice (some ⟨g, 0, none⟩) n cap) n C → (w.setCells g o vs).ownsRow B t sz (.slice (some ⟨g, 0, none⟩) n cap) n (spliced C o vs) := by
  induction vs with
  | nil => intro w o C h; exact h
  | cons v r ih => intro w o C h; exact ih (o + 1) (e_owns_cell h o v)
/-- the store of an element into a list of the call's own -/
theorem own_set (hR : R.Ok) {B g k : Nat} (h : w.ownsRow B R.et R.sz (.slice (some ⟨g, 0, none⟩) n c) n (R.all L)) (hk : k < n) (e : α) :
    (w.setCells g (k * R.sz) (R.c e)).ownsRow B R.et R.sz (.slice (some ⟨g, 0, none⟩) n c) n (R.all (L.set k e)) := by
  have hl := owns_len hR h
  rw [all_set hR (by omega)]
  exact owns_spliced _ _ h
theorem own_there (hR : R.Ok) {B g k : Nat} (h : w.ownsRow B R.et R.sz (.slice (some ⟨g, 0, none⟩) n c) n (R.all L)) (hk : k < n) : w.there g (k * R.sz) R.sz := by
  intro j hj
  obtain ⟨e, he⟩ : ∃ e, L[k]? = some e := ⟨_, List.getElem?_eq_getElem (by have := owns_len hR h; omega)⟩
  obtain ⟨u, hu⟩ : ∃ u, (R.c e)[j]? = some u := ⟨_, List.getElem?_eq_getElem (by rw [hR.len]; exact hj)⟩
  obtain ⟨h1, h2⟩ := own_cell hR h he hu
  exact ⟨by rw [h1]; rfl, h2⟩
theorem below_setCells {B g : Nat} {w0 : World} (hg : B ≤ g) : ∀ (vs : List Value) (o : Nat) {w' : World}, Below B w0 w' → Below B w0 (w'.setCells g o vs)
  | [], _, _, h => h
  | v :: r, o, _, h => below_setCells hg r (o + 1) (h.setCell hg v)
theorem Same.cells {g : Nat} (hr : ¬ F g) : ∀ (vs : List Value) (o : Nat) (w' : World), Same F w' (w'.setCells g o vs)
  | [], _, w' => Same.refl F w'
  | v :: r, o, _ => (Same.setCell (p := ⟨g, o, none⟩) hr v).trans (Same.cells hr r (o + 1) _)
/-- the index of a list and the store of a whole element there -/
theorem idx_store_row (hR : R.Ok) {ops : Array Oper} {rest : List Oper} {a : Act} {Q : Exit → Act → World → Prop} (d : Tmp) (s i y : Operand) {t1 t' : TypeId} {pos1 pos : String} {after1 after : Array Edge}
    (g o : Nat) (e : α) (hv : (execOp a.eval ⟨some d, .indexAddr R.st s i, t1, pos1, after1, none⟩).run Try.prog w = .ok (.value (.pointer (some ⟨g, o, none⟩))) w)
    (hx : (a.put (some d) (.pointer (some ⟨g, o, none⟩))).eval (.tmp d) = .pointer (some ⟨g, o, none⟩)) (hy : (a.put (some d) (.pointer (some ⟨g, o, none⟩))).eval y = .agg (R.c e).toArray) (ht : w.there g o R.sz)
    (h : ∀ w', w' = w.setCells g o (R.c e) → wpList Try.prog ops Q rest ((a.put (some d) (.pointer (some ⟨g, o, none⟩))).put none undef) w') :
    wpList Try.prog ops Q (⟨some d, .indexAddr R.st s i, t1, pos1, after1, none⟩ :: ⟨none, .store R.et (.tmp d) y, t', pos, after, none⟩ :: rest) a w :=
  wpList_plain rfl fun _ hK => by
    unfold Oper.wp
    rw [hv]
    refine hK _ _ (wpList_store_mid rfl R.et (.tmp d) y rfl g o (R.c e).toArray hx hy (by rw [List.size_toArray, hR.len]; exact ht) ?_ (all_oneCell_toArray (hR.flat e)) (h _ rfl))
    rw [List.size_toArray, hR.len]
    have := hR.info
    cases hq : Try.prog.info? R.et with
    | none => rw [hq] at this; cases this
    | some i =>
      rw [hq] at this
      simp only [Option.map_some, Option.some.injEq, Prod.mk.injEq] at this ⊢
      exact this.2.1
end
end Go.Proofs.Ytkamadeekkccgaa.Rws
