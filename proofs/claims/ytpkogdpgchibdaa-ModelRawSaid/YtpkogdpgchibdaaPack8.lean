/- Texts that belong together, part 8. -/
import Derived.Test.YtpkogdpgchibdaaPack7
import Derived.Laws.AppendOwn
import Derived.Laws.AppendOwnNone

/- Appends to a list of entries that the call owns: a list, one entry; in a walk and in a region that draws its order. -/
namespace Go.Proofs.Ytpkogdpgchibdaa.Ents
open Go.RowKit Plan EntMath
theorem e_grown (w : World) (r : Option Nat) : w.grownBy w r := ⟨rfl, rfl, rfl, Nat.le_refl _, fun _ _ _ => rfl⟩
theorem EList.news {w : World} {F : Nat → Prop} {ad : Addr} {len cap : Nat} {L : List Ent} (h : EList w F (some ad) len cap L) : ∀ j u, (ents L)[j]? = some u → w.cell? (ad.add j) = some u := by
  rcases h with ⟨_, _, _, rfl⟩ | ⟨x, h1, _, _, _, _, _, h7⟩
  · intro j u hu
    simp [ents] at hu
  · obtain rfl := Option.some.inj h1
    exact h7
theorem EList.none {w : World} {F : Nat → Prop} {len cap : Nat} {L : List Ent} (h : EList w F none len cap L) : len = 0 ∧ cap = 0 ∧ L = [] := by
  rcases h with ⟨_, h⟩ | ⟨x, h1, _⟩
  · exact h
  · cases h1
end Go.Proofs.Ytpkogdpgchibdaa.Ents

/- The walk of the document's Install. -/
namespace Go.Proofs.Ytpkogdpgchibdaa.Ents
open Go.RowKit Plan EntMath
theorem inst_a {L : List Ent} {e : Ent} (h : validB L = false) : installL L e = [] ∧ installE L e = zeroE ∧ newer L e = false := by
  unfold installL installE newer
  simp [h]
theorem inst_b {L : List Ent} {e : Ent} (h : validB L = true) (h2 : okE e = false) : installL L e = L ∧ installE L e = zeroE ∧ newer L e = false := by
  unfold installL installE newer
  simp [h, h2]
theorem inst_c {L : List Ent} {e x : Ent} (h : validB L = true) (h2 : okE e = true) (hx : lookE L e.block = some x) (hv : e.version ≤ x.version) : installL L e = L ∧ installE L e = x ∧ newer L e = false := by
  have hd : ¬ x.version < e.version := by omega
  unfold installL installE newer
  simp [h, h2, hx, hd]
theorem inst_d {L : List Ent} {e : Ent} (h : validB L = true) (h2 : okE e = true) (hx : lookE L e.block = none) : installL L e = (L.take (place L e.block) ++ [e]) ++ L.drop (place L e.block) ∧ installE L e = zeroE ∧ newer L e = true := by
  have hi := ins_place e hx (valid_iff.1 h).2
  have hn : newer L e = true := by unfold newer; simp [h, h2, hx]
  refine ⟨?_, ?_, hn⟩
  · unfold installL; rw [if_pos h, if_pos hn, ← hi]; simp
  · unfold installE; rw [if_pos ⟨h, h2⟩, hx]; rfl
theorem inst_e {L : List Ent} {e x : Ent} (h : validB L = true) (h2 : okE e = true) (hx : lookE L e.block = some x) (hv : x.version < e.version) : installL L e = (L.take (place L e.block) ++ [e]) ++ L.drop (place L e.block + 1) ∧ installE L e = x ∧ newer L e = true := by
  have hi := ins_over e x hx (valid_iff.1 h).2
  have hn : newer L e = true := by unfold newer; simp [h, h2, hx, hv]
  refine ⟨?_, ?_, hn⟩
  · unfold installL; rw [if_pos h, if_pos hn, ← hi]; simp
  · unfold installE; rw [if_pos ⟨h, h2⟩, hx]; rfl
/-- what a function that gives a list, an entry and a yes or no leaves -/
def InstPost (w : World) (F : Nat → Prop) (L : List Ent) (E : Ent) (B : Bool) (r : Ending) (w' : World) : Prop :=
  ∃ a len cap, r = .returned (.tuple #[.slice a len cap, entV E, .bool B]) ∧ EList w' (Plus F w.heap.size) a len cap L ∧ Below w.heap.size w w'
/-- a plain result, a struct and a plain one -/
theorem results_tct {P : Program} {fn : Func} {p q r : Tmp} {ty : TypeId} (h : fn.results = #[.tmp p, .cell q ty, .tmp r]) (tmps : Array Value) (w : World) (g : Nat) (t : TypeId) (cs : Array Value) (fr : Nat × Nat) (d : TypeDesc)
    (hp : tmps.getD q undef = .pointer (some ⟨g, 0, none⟩)) (hg : w.heap[g]? = some (.cells cs t fr))
    (hu : P.underlying ty = some d) (hd : (match d with | .struct _ | .array _ _ => true | _ => false) = true) (hi : (P.info? ty).map (·.size) = some cs.size) :
    (results fn tmps).run P w = .ok (.tuple #[tmps.getD p undef, .agg cs, tmps.getD r undef]) w := by
  have hp' : tmps[q]?.getD undef = .pointer (some ⟨g, 0, none⟩) := by simpa using hp
  simp [results, h, hp', asAddr, run_loadVar_row w g t ty cs fr d hg hu hd hi]
theorem EList.low {w : World} {F : Nat → Prop} {a : Option Addr} {len cap : Nat} {L : List Ent} (h : EList w F a len cap L) : EList w (fun b => b < w.heap.size) a len cap L := h.mono fun _ hb _ => hb
theorem e_owns_drew {w : World} {B sz n : Nat} {t : TypeId} {v : Value} {xs : List Value} (h : w.ownsRow B t sz v n xs) : w.drew.ownsRow B t sz v n xs := by
  refine h.kept (row := none) ⟨rfl, rfl, rfl, Nat.le_refl _, fun _ _ _ => rfl⟩ ?_
  cases v.ownBlock <;> simp
theorem sm_setRow (w : World) (x : Nat) (cs : Array Value) : w.grownBy (w.setRow x cs) (some x) :=
  ⟨rfl, rfl, rfl, Nat.le_of_eq (by simp [World.setRow]), fun i _ hne => setRow_other w x i cs (fun e => hne (by rw [e]))⟩
theorem EList.taken {w : World} {F : Nat → Prop} {a : Option Addr} {len cap : Nat} {L : List Ent} (h : EList w F a len cap L) (k : Nat) (hk : k ≤ len) : EList w F a k cap (L.take k) := by
  have hlen := h.length
  rcases h with ⟨h1, rfl, h3, rfl⟩ | ⟨x, h1, h2, h3, h4, h5, h6, h7⟩
  · exact .inl ⟨h1, by omega, h3, by simp⟩
  · refine .inr ⟨x, h1, by omega, h3, by rw [List.length_take]; omega, h5, h6, fun j u hu => h7 j u ?_⟩
    rw [ents_take] at hu
    have hj := (List.getElem?_eq_some_iff.1 hu).1
    rw [List.length_take] at hj
    rwa [List.getElem?_take, if_pos (by omega)] at hu
theorem EList.dropped {w : World} {F : Nat → Prop} {x : Addr} {len cap : Nat} {L : List Ent} (h : EList w F (some x) len cap L) (k : Nat) (hk : k ≤ len) : EList w F (if cap = k then some x else some (x.add (k * 6))) (len - k) (cap - k) (L.drop k) := by
  have hlen := h.length
  rcases h with ⟨_, rfl, rfl, rfl⟩ | ⟨y, h1, h2, h3, h4, h5, h6, h7⟩
  · obtain rfl : k = 0 := by omega
    rw [if_pos rfl]
    exact .inl ⟨trivial, rfl, rfl, rfl⟩
  · obtain rfl := Option.some.inj h1
    by_cases hc : cap = k
    · rw [if_pos hc]
      refine .inr ⟨x, rfl, by omega, by omega, by rw [List.length_drop]; omega, h5, h6, fun j u hu => ?_⟩
      rw [List.drop_of_length_le (by omega)] at hu
      simp [ents] at hu
    · rw [if_neg hc]
      refine .inr ⟨_, rfl, by omega, by omega, by rw [List.length_drop]; omega, by rw [ent_add_block]; exact h5, by rw [ent_add_block]; exact h6, fun j u hu => ?_⟩
      rw [ents_drop, List.getElem?_drop] at hu
      rw [Addr.add_add]
      exact h7 _ u hu
end Go.Proofs.Ytpkogdpgchibdaa.Ents

/- The walk of the document's Relocate. -/
namespace Go.Proofs.Ytpkogdpgchibdaa.Ents
open Go.RowKit Plan EntMath
/-- what a function that gives a list and a yes or no leaves -/
def RelPost (w : World) (F : Nat → Prop) (L : List Ent) (B : Bool) (r : Ending) (w' : World) : Prop :=
  ∃ a len cap, r = .returned (.tuple #[.slice a len cap, .bool B]) ∧ EList w' (Plus F w.heap.size) a len cap L ∧ Below w.heap.size w w'
theorem rel_a {L : List Ent} {b v fz fo tz tu m : Int} (h : validB L = false) : relocL L b v fz fo tz tu m = [] ∧ moves L b v fz fo tz tu m = false := by
  unfold relocL moves
  rw [find_invalid h]
  simp [h]
theorem rel_no {L : List Ent} {b v fz fo tz tu m : Int} (h : validB L = true) (hm : moves L b v fz fo tz tu m = false) : relocL L b v fz fo tz tu m = L := by
  unfold relocL
  rw [if_pos h, if_neg (by rw [hm]; decide)]
theorem rel_none {L : List Ent} {b v fz fo tz tu m : Int} (h : findE L b = none) : moves L b v fz fo tz tu m = false := by
  unfold moves
  rw [h]
theorem rel_some {L : List Ent} {b v fz fo tz tu m : Int} {y : Ent} (h : findE L b = some y) : moves L b v fz fo tz tu m = true ↔ y.version = v ∧ y.zone = fz ∧ y.offset = fo ∧ 0 ≤ tz ∧ 0 ≤ tu ∧ 0 ≤ m ∧ m ≤ 255 := by
  unfold moves
  rw [h]
  simp [Bool.and_eq_true, and_assoc]
theorem rel_yes {L : List Ent} {b v fz fo tz tu m : Int} {y : Ent} (h : validB L = true) (hy : lookE L b = some y) (hm : moves L b v fz fo tz tu m = true) : relocL L b v fz fo tz tu m = L.set (place L b) (moved y tz tu m) := by
  have hb := look_block hy
  unfold relocL
  rw [if_pos h, if_pos hm, hy]
  have := ins_set (L := L) (moved y tz tu m) y (by show lookE L y.block = some y; rw [hb]; exact hy) (valid_iff.1 h).2
  show ins L (moved y tz tu m) = _
  rw [← this]
  show L.set (place L y.block) _ = _
  rw [hb]
theorem e_owns_on {w w' : World} {B sz n : Nat} {t : TypeId} {v : Value} {xs : List Value} (h : w.ownsRow B t sz v n xs) (hb : Below w.heap.size w w') : w'.ownsRow B t sz v n xs := by
  refine h.kept (row := none) ⟨hb.os, hb.tape, hb.output, hb.size, fun i hi _ => hb.block i hi⟩ ?_
  cases v.ownBlock <;> simp
theorem e_owns_one {w : World} {B g n cap : Nat} {t : TypeId} {C : List Value} (h : w.ownsRow B t 6 (.slice (some ⟨g, 0, none⟩) n cap) n C) {j : Nat} (hj : j < C.length) : (∃ u, w.cell? ⟨g, j, none⟩ = some u) ∧ w.frozen? ⟨g, j, none⟩ = false := by
  constructor
  · have := h.cells (g := g) rfl j C[j] (List.getElem?_eq_getElem _)
    rw [Addr.add_lit, Nat.zero_add] at this
    exact ⟨_, this⟩
  · rcases h.2 with ⟨h, _⟩ | ⟨g', cap', cur, hv, hb, hg, _⟩
    · cases h
    · cases hv
      simp [World.frozen?, hg]
theorem e_owns_cell {w : World} {B sz g n cap : Nat} {t : TypeId} {C : List Value} (h : w.ownsRow B t sz (.slice (some ⟨g, 0, none⟩) n cap) n C) (j : Nat) (u : Value) :
    (w.setCell ⟨g, j, none⟩ u).ownsRow B t sz (.slice (some ⟨g, 0, none⟩) n cap) n (C.set j u) := by
  obtain ⟨h1, h2⟩ := h
  rcases h2 with ⟨h, _⟩ | ⟨g', cap', cur, hv, hb, hg, k1, k2, k3, k4⟩
  · cases h
  · cases hv
    refine ⟨by rw [List.length_set]; exact h1, .inr ⟨g, cap, cur.setIfInBounds j u, rfl, hb, ?_, k1, k2, by simpa using k3, ?_⟩⟩
    · rw [setCell_eq_setRow w g j cur t (0, 0) u hg]
      exact setRow_heap w g cur _ t (0, 0) hg
    · rw [Array.toList_setIfInBounds, List.take_set, k4]
theorem ents_moved {L : List Ent} {k : Nat} {y : Ent} (h : L[k]? = some y) (tz tu m : Int) : ents (L.set k (moved y tz tu m)) = (((ents L).set (k * 6 + 4) (.int .i64 tz)).set (k * 6 + 5) (.int .i64 tu)).set (k * 6 + 3) (.int .i64 m) := by
  induction L generalizing k with
  | nil => cases h
  | cons x L ih =>
    cases k with
    | zero =>
      obtain rfl := Option.some.inj h
      simp [ents_cons, entC, moved]
    | succ k =>
      have hs : ∀ (M : List Value) j u, (entC x ++ M).set (j + 6) u = entC x ++ M.set j u := fun M j u => by simp [entC]
      rw [List.set_cons_succ, ents_cons, ents_cons, ih h]
      rw [show (k + 1) * 6 + 4 = (k * 6 + 4) + 6 by omega, hs, show (k + 1) * 6 + 5 = (k * 6 + 5) + 6 by omega, hs, show (k + 1) * 6 + 3 = (k * 6 + 3) + 6 by omega, hs]
theorem place_row {w : World} {g : Nat} {a b : Value} {t : TypeId} {fr : Nat × Nat} (h : w.heap[g]? = some (.cells #[a, b] t fr)) : w.cell? ⟨g, 0, none⟩ = some a ∧ w.cell? ⟨g, 1, none⟩ = some b := ⟨cell_of_row _ _ 0 _ _ _ h, cell_of_row _ _ 1 _ _ _ h⟩
end Go.Proofs.Ytpkogdpgchibdaa.Ents

/- The walks of the document's Drop and Same. -/
namespace Go.Proofs.Ytpkogdpgchibdaa.Ents
open Go.RowKit Plan EntMath
/-- what Drop leaves -/
def DropPost (w : World) (F : Nat → Prop) (L M : List Ent) (r : Ending) (w' : World) : Prop :=
  ∃ a n c b m d, r = .returned (.tuple #[.slice a n c, .slice b m d]) ∧ EList w' (Plus F w.heap.size) a n c L ∧ EList w' (Plus F w.heap.size) b m d M ∧ Below w.heap.size w w'
theorem take_next {L : List Ent} {j : Nat} {e : Ent} (h : L[j]? = some e) : L.take (j + 1) = L.take j ++ [e] := by
  rw [List.take_add_one, h]
  rfl
theorem filter_next {L : List Ent} {j : Nat} {e : Ent} (h : L[j]? = some e) (p : Ent → Bool) : (L.take (j + 1)).filter p = (L.take j).filter p ++ (if p e = true then [e] else []) := by
  rw [take_next h, List.filter_append]
  congr 1
  simp only [List.filter_cons, List.filter_nil]
/-- two lists of the call's own in different blocks -/
def Apart (v u : Value) : Prop := ∀ b, v.ownBlock = some b → u.ownBlock = some b → False
theorem Apart.symm {v u : Value} (h : Apart v u) : Apart u v := fun b h1 h2 => h b h2 h1
theorem owns_apart {w w' : World} {B sz n : Nat} {t : TypeId} {v u : Value} {xs : List Value} (h : w.ownsRow B t sz v n xs) (hap : Apart v u) (hg : w.grownBy w' u.ownBlock) : w'.ownsRow B t sz v n xs := by
  refine h.kept hg ?_
  cases hv : v.ownBlock with
  | none => exact .inl rfl
  | some b => exact .inr (fun e => hap b hv e.symm)
theorem apart_next {w : World} {B sz n n' c' g H : Nat} {t : TypeId} {v u : Value} {xs : List Value} (hv : w.ownsRow B t sz v n xs) (hap : Apart v u) (hat : u.ownBlock = some g ∨ g = H) (hH : w.heap.size ≤ H) : Apart v (.slice (some ⟨g, 0, none⟩) n' c') := by
  intro b hb hb2
  have e : g = b := Option.some.inj (show some g = some b from hb2)
  subst e
  rcases hat with h | h
  · exact hap _ hb h
  · have := (hv.lt g hb).2
    omega
end Go.Proofs.Ytpkogdpgchibdaa.Ents

/- The walk of the document's Same, for equal lists. -/
namespace Go.Proofs.Ytpkogdpgchibdaa.Ents
open Go.RowKit Plan EntMath
end Go.Proofs.Ytpkogdpgchibdaa.Ents
