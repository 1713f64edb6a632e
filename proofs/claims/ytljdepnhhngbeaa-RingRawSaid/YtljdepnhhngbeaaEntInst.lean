
/- The walk of the document's Install. -/
import Derived.Test.YtljdepnhhngbeaaEntApp
namespace Go.Proofs.Ytljdepnhhngbeaa.Ents
open Go.RowKit Plan EntMath
theorem inst_a {L : List Ent} {e : Ent} (h : validB L = false) : installL L e = [] ∧ installE L e = zeroE ∧ newer L e = false := by
  unfold installL installE newer
  simp [h]
theorem inst_b {L : List Ent} {e : Ent} (h : validB L = true) (h2 : okE e = false) : installL L e = L ∧ installE L e = zeroE ∧ newer L e = false := by
  unfold installL installE newer
  simp [h, h2]
theorem inst_c {L : List Ent} {e x : Ent} (h : validB L = true) (h2 : okE e = true) (hx : lookE L e.block = some x) (hv : e.version ≤ x.version) : installL L e = L ∧ installE L e = x ∧ newer L e = false := by
  have hd : ¬ x.version < e.version := by omega
  unfold installL installE newer
  simp [h, h2, hx, hd]
theorem inst_d {L : List Ent} {e : Ent} (h : validB L = true) (h2 : okE e = true) (hx : lookE L e.block = none) : installL L e = (L.take (place L e.block) ++ [e]) ++ L.drop (place L e.block) ∧ installE L e = zeroE ∧ newer L e = true := by
  have hi := ins_place e hx (valid_iff.1 h).2
  have hn : newer L e = true := by unfold newer; simp [h, h2, hx]
  refine ⟨?_, ?_, hn⟩
  · unfold installL; rw [if_pos h, if_pos hn, ← hi]; simp
  · unfold installE; rw [if_pos ⟨h, h2⟩, hx]; rfl
theorem inst_e {L : List Ent} {e x : Ent} (h : validB L = true) (h2 : okE e = true) (hx : lookE L e.block = some x) (hv : x.version < e.version) : installL L e = (L.take (place L e.block) ++ [e]) ++ L.drop (place L e.block + 1) ∧ installE L e = x ∧ newer L e = true := by
  have hi := ins_over e x hx (valid_iff.1 h).2
  have hn : newer L e = true := by unfold newer; simp [h, h2, hx, hv]
  refine ⟨?_, ?_, hn⟩
  · unfold installL; rw [if_pos h, if_pos hn, ← hi]; simp
  · unfold installE; rw [if_pos ⟨h, h2⟩, hx]; rfl
/-- what a function that gives a list, an entry and a yes or no leaves -/
def InstPost (w : World) (F : Nat → Prop) (L : List Ent) (E : Ent) (B : Bool) (r : Ending) (w' : World) : Prop :=
  ∃ a len cap, r = .returned (.tuple #[.slice a len cap, entV E, .bool B]) ∧ EList w' (Plus F w.heap.size) a len cap L ∧ Below w.heap.size w w'
/-- a plain result, a struct and a plain one -/
theorem results_tct {P : Program} {fn : Func} {p q r : Tmp} {ty : TypeId} (h : fn.results = #[.tmp p, .cell q ty, .tmp r]) (tmps : Array Value) (w : World) (g : Nat) (t : TypeId) (cs : Array Value) (fr : Nat × Nat) (d : TypeDesc)
    (hp : tmps.getD q undef = .pointer (some ⟨g, 0, none⟩)) (hg : w.heap[g]? = some (.cells cs t fr))
    (hu : P.underlying ty = some d) (hd : (match d with | .struct _ | .array _ _ => true | _ => false) = true) (hi : (P.info? ty).map (·.size) = some cs.size) :
    (results fn tmps).run P w = .ok (.tuple #[tmps.getD p undef, .agg cs, tmps.getD r undef]) w := by
  have hp' : tmps[q]?.getD undef = .pointer (some ⟨g, 0, none⟩) := by simpa using hp
  simp [results, h, hp', asAddr, run_loadVar_row w g t ty cs fr d hg hu hd hi]
theorem EList.low {w : World} {F : Nat → Prop} {a : Option Addr} {len cap : Nat} {L : List Ent} (h : EList w F a len cap L) : EList w (fun b => b < w.heap.size) a len cap L := h.mono fun _ hb _ => hb
theorem e_owns_drew {w : World} {B sz n : Nat} {t : TypeId} {v : Value} {xs : List Value} (h : w.ownsRow B t sz v n xs) : w.drew.ownsRow B t sz v n xs := by
  refine h.kept (row := none) ⟨rfl, rfl, rfl, Nat.le_refl _, fun _ _ _ => rfl⟩ ?_
  cases v.ownBlock <;> simp
theorem sm_setRow (w : World) (x : Nat) (cs : Array Value) : w.grownBy (w.setRow x cs) (some x) :=
  ⟨rfl, rfl, rfl, Nat.le_of_eq (by simp [World.setRow]), fun i _ hne => setRow_other w x i cs (fun e => hne (by rw [e]))⟩
theorem EList.taken {w : World} {F : Nat → Prop} {a : Option Addr} {len cap : Nat} {L : List Ent} (h : EList w F a len cap L) (k : Nat) (hk : k ≤ len) : EList w F a k cap (L.take k) := by
  have hlen := h.length
  rcases h with ⟨h1, rfl, h3, rfl⟩ | ⟨x, h1, h2, h3, h4, h5, h6, h7⟩
  · exact .inl ⟨h1, by omega, h3, by simp⟩
  · refine .inr ⟨x, h1, by omega, h3, by rw [List.length_take]; omega, h5, h6, fun j u hu => h7 j u ?_⟩
    rw [ents_take] at hu
    have hj := (List.getElem?_eq_some_iff.1 hu).1
    rw [List.length_take] at hj
    rwa [List.getElem?_take, if_pos (by omega)] at hu
theorem EList.dropped {w : World} {F : Nat → Prop} {x : Addr} {len cap : Nat} {L : List Ent} (h : EList w F (some x) len cap L) (k : Nat) (hk : k ≤ len) : EList w F (if cap = k then some x else some (x.add (k * 6))) (len - k) (cap - k) (L.drop k) := by
  have hlen := h.length
  rcases h with ⟨_, rfl, rfl, rfl⟩ | ⟨y, h1, h2, h3, h4, h5, h6, h7⟩
  · obtain rfl : k = 0 := by omega
    rw [if_pos rfl]
    exact .inl ⟨trivial, rfl, rfl, rfl⟩
  · obtain rfl := Option.some.inj h1
    by_cases hc : cap = k
    · rw [if_pos hc]
      refine .inr ⟨x, rfl, by omega, by omega, by rw [List.length_drop]; omega, h5, h6, fun j u hu => ?_⟩
      rw [List.drop_of_length_le (by omega)] at hu
      simp [ents] at hu
    · rw [if_neg hc]
      refine .inr ⟨_, rfl, by omega, by omega, by rw [List.length_drop]; omega, by rw [ent_add_block]; exact h5, by rw [ent_add_block]; exact h6, fun j u hu => ?_⟩
      rw [ents_drop, List.getElem?_drop] at hu
      rw [Addr.add_add]
      exact h7 _ u hu
end Go.Proofs.Ytljdepnhhngbeaa.Ents
