/- Texts that belong together, part 11. -/
import Derived.Test.YtjdlekjikemdpaaPack10
import Derived.Laws.AppendOwn
import Derived.Laws.AppendOwnNone

/- The walk of the maker's Rest, for any dice. -/
namespace Go.Proofs.Ytjdlekjikemdpaa
open Go.RowKit Plan
set_option maxHeartbeats 400000 in
/-- Rest: how many numbers are left -/
theorem rest_dice (w : World) (base g : Nat) (zs : List Int) (k : Nat) (hd : Dice w base g zs k) (hl : zs.length ≤ 100000) (hk : k ≤ 100000) :
    Calls Try.prog 11 #[.pointer (some ⟨g, 0, none⟩)] w fun e w' => e = .returned (.int .i64 (max 0 ((zs.length : Int) - (k : Int)))) ∧ w' = w.drew := by
  obtain ⟨v, hg, hown, hne, hb⟩ := hd
  have c0 := cell_of_row _ _ 0 _ _ _ hg
  have c1 := cell_of_row _ _ 1 _ _ _ hg
  simp only [List.getElem?_toArray, List.getElem?_cons_zero, List.getElem?_cons_succ] at c0 c1
  have hwr : IntKind.i64.wrap ((zs.length : Int) - (k : Int)) = (zs.length : Int) - (k : Int) := IntWalk.i64_in _ (by omega)
  have hv : ∃ a c, v = .slice a zs.length c := by
    rcases hown.2 with ⟨h, h0⟩ | ⟨b, c, _, h, _⟩
    · exact ⟨none, 0, by rw [h, h0]⟩
    · exact ⟨_, c, h⟩
  obtain ⟨a, c, rfl⟩ := hv
  clear hown hne hg
  go_enter Try.func11, Try.ntmps11
  go_wp2_with fail
  refine Plan.start (fun w' => w' = w.drew) [(0, true), (1, true), (2, true), (3, true), (4, true), (5, true), (6, true), (7, true), (8, true), (9, true), (10, true), (11, true)] (by kernel_rfl) (by kernel_rfl) (by kernel_rfl) (by kernel_rfl) rfl ?_
  simp only [List.map_cons, List.map_nil, List.getElem?_toArray, List.getElem?_cons_zero, List.getElem?_cons_succ]
  repeat (first | (refine Plan.take ?_ (by rfl) ?_ ?_; rotate_left; (· rintro w9 rfl; go_simp; (try rw [if_neg (by omega)]); all_goals (with_reducible rfl)); simp only [Act.put, List.setIfInBounds_toArray, List.set_cons_zero, List.set_cons_succ]) | (refine Plan.pass (by rfl) ?_; simp only [Act.put, List.setIfInBounds_toArray, List.set_cons_zero, List.set_cons_succ]))
  refine Plan.ends ?_
  go_wp2
  all_goals go_ret
  all_goals exact ⟨ret_i64 (by omega), rfl⟩
end Go.Proofs.Ytjdlekjikemdpaa

/- Appends to a list of entries that the call owns: a list, one entry; in a walk and in a region that draws its order. -/
namespace Go.Proofs.Ytjdlekjikemdpaa.Ents
open Go.RowKit Plan EntMath
theorem e_grown (w : World) (r : Option Nat) : w.grownBy w r := ⟨rfl, rfl, rfl, Nat.le_refl _, fun _ _ _ => rfl⟩
theorem EList.news {w : World} {F : Nat → Prop} {ad : Addr} {len cap : Nat} {L : List Ent} (h : EList w F (some ad) len cap L) : ∀ j u, (ents L)[j]? = some u → w.cell? (ad.add j) = some u := by
  rcases h with ⟨_, _, _, rfl⟩ | ⟨x, h1, _, _, _, _, _, h7⟩
  · intro j u hu
    simp [ents] at hu
  · obtain rfl := Option.some.inj h1
    exact h7
theorem EList.none {w : World} {F : Nat → Prop} {len cap : Nat} {L : List Ent} (h : EList w F none len cap L) : len = 0 ∧ cap = 0 ∧ L = [] := by
  rcases h with ⟨_, h⟩ | ⟨x, h1, _⟩
  · exact h
  · cases h1
end Go.Proofs.Ytjdlekjikemdpaa.Ents

/- The walk of the document's Install. -/
namespace Go.Proofs.Ytjdlekjikemdpaa.Ents
open Go.RowKit Plan EntMath
theorem inst_a {L : List Ent} {e : Ent} (h : validB L = false) : installL L e = [] ∧ installE L e = zeroE ∧ newer L e = false := by
  unfold installL installE newer
  simp [h]
theorem inst_b {L : List Ent} {e : Ent} (h : validB L = true) (h2 : okE e = false) : installL L e = L ∧ installE L e = zeroE ∧ newer L e = false := by
  unfold installL installE newer
  simp [h, h2]
theorem inst_c {L : List Ent} {e x : Ent} (h : validB L = true) (h2 : okE e = true) (hx : lookE L e.block = some x) (hv : e.version ≤ x.version) : installL L e = L ∧ installE L e = x ∧ newer L e = false := by
  have hd : ¬ x.version < e.version := by omega
  unfold installL installE newer
  simp [h, h2, hx, hd]
theorem inst_d {L : List Ent} {e : Ent} (h : validB L = true) (h2 : okE e = true) (hx : lookE L e.block = none) : installL L e = (L.take (place L e.block) ++ [e]) ++ L.drop (place L e.block) ∧ installE L e = zeroE ∧ newer L e = true := by
  have hi := ins_place e hx (valid_iff.1 h).2
  have hn : newer L e = true := by unfold newer; simp [h, h2, hx]
  refine ⟨?_, ?_, hn⟩
  · unfold installL; rw [if_pos h, if_pos hn, ← hi]; simp
  · unfold installE; rw [if_pos ⟨h, h2⟩, hx]; rfl
theorem inst_e {L : List Ent} {e x : Ent} (h : validB L = true) (h2 : okE e = true) (hx : lookE L e.block = some x) (hv : x.version < e.version) : installL L e = (L.take (place L e.block) ++ [e]) ++ L.drop (place L e.block + 1) ∧ installE L e = x ∧ newer L e = true := by
  have hi := ins_over e x hx (valid_iff.1 h).2
  have hn : newer L e = true := by unfold newer; simp [h, h2, hx, hv]
  refine ⟨?_, ?_, hn⟩
  · unfold installL; rw [if_pos h, if_pos hn, ← hi]; simp
  · unfold installE; rw [if_pos ⟨h, h2⟩, hx]; rfl
/-- what a function that gives a list, an entry and a yes or no leaves -/
def InstPost (w : World) (F : Nat → Prop) (L : List Ent) (E : Ent) (B : Bool) (r : Ending) (w' : World) : Prop :=
  ∃ a len cap, r = .returned (.tuple #[.slice a len cap, entV E, .bool B]) ∧ EList w' (Plus F w.heap.size) a len cap L ∧ Below w.heap.size w w'
/-- a plain result, a struct and a plain one -/
theorem results_tct {P : Program} {fn : Func} {p q r : Tmp} {ty : TypeId} (h : fn.results = #[.tmp p, .cell q ty, .tmp r]) (tmps : Array Value) (w : World) (g : Nat) (t : TypeId) (cs : Array Value) (fr : Nat × Nat) (d : TypeDesc)
    (hp : tmps.getD q undef = .pointer (some ⟨g, 0, none⟩)) (hg : w.heap[g]? = some (.cells cs t fr))
    (hu : P.underlying ty = some d) (hd : (match d with | .struct _ | .array _ _ => true | _ => false) = true) (hi : (P.info? ty).map (·.size) = some cs.size) :
    (results fn tmps).run P w = .ok (.tuple #[tmps.getD p undef, .agg cs, tmps.getD r undef]) w := by
  have hp' : tmps[q]?.getD undef = .pointer (some ⟨g, 0, none⟩) := by simpa using hp
  simp [results, h, hp', asAddr, run_loadVar_row w g t ty cs fr d hg hu hd hi]
theorem EList.low {w : World} {F : Nat → Prop} {a : Option Addr} {len cap : Nat} {L : List Ent} (h : EList w F a len cap L) : EList w (fun b => b < w.heap.size) a len cap L := h.mono fun _ hb _ => hb
theorem e_owns_drew {w : World} {B sz n : Nat} {t : TypeId} {v : Value} {xs : List Value} (h : w.ownsRow B t sz v n xs) : w.drew.ownsRow B t sz v n xs := by
  refine h.kept (row := none) ⟨rfl, rfl, rfl, Nat.le_refl _, fun _ _ _ => rfl⟩ ?_
  cases v.ownBlock <;> simp
theorem sm_setRow (w : World) (x : Nat) (cs : Array Value) : w.grownBy (w.setRow x cs) (some x) :=
  ⟨rfl, rfl, rfl, Nat.le_of_eq (by simp [World.setRow]), fun i _ hne => setRow_other w x i cs (fun e => hne (by rw [e]))⟩
theorem EList.taken {w : World} {F : Nat → Prop} {a : Option Addr} {len cap : Nat} {L : List Ent} (h : EList w F a len cap L) (k : Nat) (hk : k ≤ len) : EList w F a k cap (L.take k) := by
  have hlen := h.length
  rcases h with ⟨h1, rfl, h3, rfl⟩ | ⟨x, h1, h2, h3, h4, h5, h6, h7⟩
  · exact .inl ⟨h1, by omega, h3, by simp⟩
  · refine .inr ⟨x, h1, by omega, h3, by rw [List.length_take]; omega, h5, h6, fun j u hu => h7 j u ?_⟩
    rw [ents_take] at hu
    have hj := (List.getElem?_eq_some_iff.1 hu).1
    rw [List.length_take] at hj
    rwa [List.getElem?_take, if_pos (by omega)] at hu
theorem EList.dropped {w : World} {F : Nat → Prop} {x : Addr} {len cap : Nat} {L : List Ent} (h : EList w F (some x) len cap L) (k : Nat) (hk : k ≤ len) : EList w F (if cap = k then some x else some (x.add (k * 6))) (len - k) (cap - k) (L.drop k) := by
  have hlen := h.length
  rcases h with ⟨_, rfl, rfl, rfl⟩ | ⟨y, h1, h2, h3, h4, h5, h6, h7⟩
  · obtain rfl : k = 0 := by omega
    rw [if_pos rfl]
    exact .inl ⟨trivial, rfl, rfl, rfl⟩
  · obtain rfl := Option.some.inj h1
    by_cases hc : cap = k
    · rw [if_pos hc]
      refine .inr ⟨x, rfl, by omega, by omega, by rw [List.length_drop]; omega, h5, h6, fun j u hu => ?_⟩
      rw [List.drop_of_length_le (by omega)] at hu
      simp [ents] at hu
    · rw [if_neg hc]
      refine .inr ⟨_, rfl, by omega, by omega, by rw [List.length_drop]; omega, by rw [ent_add_block]; exact h5, by rw [ent_add_block]; exact h6, fun j u hu => ?_⟩
      rw [ents_drop, List.getElem?_drop] at hu
      rw [Addr.add_add]
      exact h7 _ u hu
end Go.Proofs.Ytjdlekjikemdpaa.Ents
