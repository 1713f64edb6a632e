/- Texts that belong together, part 7. -/
import Derived.Test.YtnmhnjjehglcfaaGreatPack5
import Derived.Test.YtnmhnjjehglcfaaGreatPack6
import Derived.Laws.AppendOwn
import Derived.Laws.AppendOwnNone

/- The walk of the maker's Rest, for any dice. -/
namespace Go.Proofs.YtnmhnjjehglcfaaGreat
open Go.RowKit Plan
set_option maxHeartbeats 400000 in
/-- Rest: how many numbers are left -/
theorem rest_dice (w : World) (base g : Nat) (zs : List Int) (k : Nat) (hd : Dice w base g zs k) (hl : zs.length ≤ 100000) (hk : k ≤ 100000) :
    Calls Tryz.prog 27 #[.pointer (some ⟨g, 0, none⟩)] w fun e w' => e = .returned (.int .i64 (max 0 ((zs.length : Int) - (k : Int)))) ∧ w' = w.drew := by
  obtain ⟨v, hg, hown, hne, hb⟩ := hd
  have c0 := cell_of_row _ _ 0 _ _ _ hg
  have c1 := cell_of_row _ _ 1 _ _ _ hg
  simp only [List.getElem?_toArray, List.getElem?_cons_zero, List.getElem?_cons_succ] at c0 c1
  have hwr : IntKind.i64.wrap ((zs.length : Int) - (k : Int)) = (zs.length : Int) - (k : Int) := IntWalk.i64_in _ (by omega)
  have hv : ∃ a c, v = .slice a zs.length c := by
    rcases hown.2 with ⟨h, h0⟩ | ⟨b, c, _, h, _⟩
    · exact ⟨none, 0, by rw [h, h0]⟩
    · exact ⟨_, c, h⟩
  obtain ⟨a, c, rfl⟩ := hv
  clear hown hne hg
  go_enter Tryz.func27, Tryz.ntmps27
  go_wp2_with fail
  refine Plan.start (fun w' => w' = w.drew) [(0, true), (1, true), (2, true), (3, true), (4, true), (5, true), (6, true), (7, true), (8, true), (9, true), (10, true), (11, true)] (by kernel_rfl) (by kernel_rfl) (by kernel_rfl) (by kernel_rfl) rfl ?_
  simp only [List.map_cons, List.map_nil, List.getElem?_toArray, List.getElem?_cons_zero, List.getElem?_cons_succ]
  repeat (first | (refine Plan.take ?_ (by rfl) ?_ ?_; rotate_left; (· rintro w9 rfl; go_simp; (try rw [if_neg (by omega)]); all_goals (with_reducible rfl)); simp only [Act.put, List.setIfInBounds_toArray, List.set_cons_zero, List.set_cons_succ]) | (refine Plan.pass (by rfl) ?_; simp only [Act.put, List.setIfInBounds_toArray, List.set_cons_zero, List.set_cons_succ]))
  refine Plan.ends ?_
  go_wp2
  all_goals go_ret
  all_goals exact ⟨ret_i64 (by omega), rfl⟩
end Go.Proofs.YtnmhnjjehglcfaaGreat

/- Appends to a list of entries that the call owns: a list, one entry; in a walk and in a region that draws its order. -/
namespace Go.Proofs.YtnmhnjjehglcfaaGreat.Ents
open Go.RowKit Plan EntMath
theorem e_grown (w : World) (r : Option Nat) : w.grownBy w r := ⟨rfl, rfl, rfl, Nat.le_refl _, fun _ _ _ => rfl⟩
theorem EList.news {w : World} {F : Nat → Prop} {ad : Addr} {len cap : Nat} {L : List Ent} (h : EList w F (some ad) len cap L) : ∀ j u, (ents L)[j]? = some u → w.cell? (ad.add j) = some u := by
  rcases h with ⟨_, _, _, rfl⟩ | ⟨x, h1, _, _, _, _, _, h7⟩
  · intro j u hu
    simp [ents] at hu
  · obtain rfl := Option.some.inj h1
    exact h7
theorem EList.none {w : World} {F : Nat → Prop} {len cap : Nat} {L : List Ent} (h : EList w F none len cap L) : len = 0 ∧ cap = 0 ∧ L = [] := by
  rcases h with ⟨_, h⟩ | ⟨x, h1, _⟩
  · exact h
  · cases h1
end Go.Proofs.YtnmhnjjehglcfaaGreat.Ents

/- The walk of the document's Install. -/
namespace Go.Proofs.YtnmhnjjehglcfaaGreat.Ents
open Go.RowKit Plan EntMath
theorem EList.low {w : World} {F : Nat → Prop} {a : Option Addr} {len cap : Nat} {L : List Ent} (h : EList w F a len cap L) : EList w (fun b => b < w.heap.size) a len cap L := h.mono fun _ hb _ => hb
theorem EList.taken {w : World} {F : Nat → Prop} {a : Option Addr} {len cap : Nat} {L : List Ent} (h : EList w F a len cap L) (k : Nat) (hk : k ≤ len) : EList w F a k cap (L.take k) := by
  have hlen := h.length
  rcases h with ⟨h1, rfl, h3, rfl⟩ | ⟨x, h1, h2, h3, h4, h5, h6, h7⟩
  · exact .inl ⟨h1, by omega, h3, by simp⟩
  · refine .inr ⟨x, h1, by omega, h3, by rw [List.length_take]; omega, h5, h6, fun j u hu => h7 j u ?_⟩
    rw [ents_take] at hu
    have hj := (List.getElem?_eq_some_iff.1 hu).1
    rw [List.length_take] at hj
    rwa [List.getElem?_take, if_pos (by omega)] at hu
end Go.Proofs.YtnmhnjjehglcfaaGreat.Ents

/- The walk of the document's Relocate. -/
namespace Go.Proofs.YtnmhnjjehglcfaaGreat.Ents
open Go.RowKit Plan EntMath
theorem e_owns_cell {w : World} {B sz g n cap : Nat} {t : TypeId} {C : List Value} (h : w.ownsRow B t sz (.slice (some ⟨g, 0, none⟩) n cap) n C) (j : Nat) (u : Value) :
    (w.setCell ⟨g, j, none⟩ u).ownsRow B t sz (.slice (some ⟨g, 0, none⟩) n cap) n (C.set j u) := by
  obtain ⟨h1, h2⟩ := h
  rcases h2 with ⟨h, _⟩ | ⟨g', cap', cur, hv, hb, hg, k1, k2, k3, k4⟩
  · cases h
  · cases hv
    refine ⟨by rw [List.length_set]; exact h1, .inr ⟨g, cap, cur.setIfInBounds j u, rfl, hb, ?_, k1, k2, by simpa using k3, ?_⟩⟩
    · rw [setCell_eq_setRow w g j cur t (0, 0) u hg]
      exact setRow_heap w g cur _ t (0, 0) hg
    · rw [Array.toList_setIfInBounds, List.take_set, k4]
end Go.Proofs.YtnmhnjjehglcfaaGreat.Ents

/- The walks of the document's Drop and Same. -/
namespace Go.Proofs.YtnmhnjjehglcfaaGreat.Ents
open Go.RowKit Plan EntMath
/-- two lists of the call's own in different blocks -/
def Apart (v u : Value) : Prop := ∀ b, v.ownBlock = some b → u.ownBlock = some b → False
theorem Apart.symm {v u : Value} (h : Apart v u) : Apart u v := fun b h1 h2 => h b h2 h1
end Go.Proofs.YtnmhnjjehglcfaaGreat.Ents
