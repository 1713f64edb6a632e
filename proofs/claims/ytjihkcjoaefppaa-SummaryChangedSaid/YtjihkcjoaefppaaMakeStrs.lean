/- Lists of strings that the call owns, beside dice. -/
import Derived.Test.YtjihkcjoaefppaaMakeRecord
import Derived.Test.YtjihkcjoaefppaaSumIs
import Derived.Deep.AppendLies
namespace Go.Proofs.Ytjihkcjoaefppaa
open Go.RowKit Plan

/-- strings as cells -/
def strs (L : List ByteArray) : List Value := L.map Value.string
theorem strs_length (L : List ByteArray) : (strs L).length = L.length := by simp [strs]
theorem strs_cells (L : List ByteArray) : ∀ u ∈ strs L, u.oneCell' = true := by
  intro u hu
  obtain ⟨n, _, rfl⟩ := List.mem_map.1 hu
  rfl
theorem strs_app (L M : List ByteArray) : strs (L ++ M) = strs L ++ strs M := by simp [strs]
theorem strs_get {L : List ByteArray} {j : Nat} {s : ByteArray} (h : L[j]? = some s) : (strs L)[j]? = some (.string s) := by simp [strs, h]
theorem str_info : (Try.prog.info? 9).map (fun i => (i.zero, i.size, i.bytes)) = some (some (.string ByteArray.empty), 1, 16) := by kernel_rfl
theorem below_none {w w' : World} (hb : Below w.heap.size w w') : w.grownBy w' none := ⟨hb.os, hb.tape, hb.output, hb.size, fun k hk _ => hb.block k hk⟩
theorem owns_on {w w' : World} {B : Nat} {t : TypeId} {v : Value} {n : Nat} {xs : List Value} (h : w.ownsRow B t 1 v n xs) (hb : Below w.heap.size w w') : w'.ownsRow B t 1 v n xs :=
  h.kept (below_none hb) (by cases hv : v.ownBlock <;> simp)
/-- a list that the call owns is one that is read -/
theorem owns_strs {w : World} {B : Nat} {v : Value} {n : Nat} {L : List ByteArray} (h : w.ownsRow B 9 1 v n (strs L)) (hs : ∀ s ∈ L, s.size ≤ maxLen) : L.length = n ∧ ∃ a cap, v = .slice a n cap ∧ IsStrs w a n cap L := by
  have hl : L.length = n := by have := h.1; rw [strs_length] at this; omega
  refine ⟨hl, ?_⟩
  rcases h.2 with ⟨rfl, rfl⟩ | ⟨g, cap, cur, rfl, hb, hg, h1, h2, h3, h4⟩
  · obtain rfl : L = [] := List.length_eq_zero_iff.1 hl
    exact ⟨none, 0, rfl, .inl ⟨rfl, rfl, rfl, rfl⟩⟩
  · exact ⟨_, _, rfl, .inr ⟨_, rfl, h1, h2, hl, fun i s hi => ⟨h.cells rfl i _ (strs_get hi), hs s (List.mem_of_getElem? hi)⟩⟩⟩
theorem IsStrs.take {w : World} {a : Option Addr} {n cap : Nat} {L : List ByteArray} (h : IsStrs w a n cap L) (k : Nat) (hk : k ≤ n) : IsStrs w a k cap (L.take k) := by
  rcases h with ⟨rfl, rfl, rfl, rfl⟩ | ⟨x, rfl, h2, h3, h4, h5⟩
  · obtain rfl : k = 0 := by omega
    exact .inl ⟨rfl, rfl, rfl, rfl⟩
  · refine .inr ⟨x, rfl, by omega, h3, by rw [List.length_take]; omega, fun i s hi => h5 i s ?_⟩
    rw [List.getElem?_take] at hi
    split at hi
    · exact hi
    · cases hi
theorem strs_news {W : World} {x : Addr} {n cap : Nat} {L : List ByteArray} (h : IsStrs W (some x) n cap L) : ∀ j u, (strs L)[j]? = some u → W.cell? (x.add j) = some u := by
  intro j u hu
  rcases h with ⟨h, _⟩ | ⟨x', hx, _, _, _, h5⟩
  · cases h
  · obtain rfl := Option.some.inj hx
    simp only [strs, List.getElem?_map] at hu
    obtain ⟨s, hs, rfl⟩ := Option.map_eq_some_iff.1 hu
    exact (h5 j s hs).1
theorem owns_set {w : World} {B g n cap : Nat} {L : List ByteArray} (h : w.ownsRow B 9 1 (.slice (some ⟨g, 0, none⟩) n cap) n (strs L)) (q : Nat) (F : ByteArray) :
    (w.setCell ⟨g, q, none⟩ (.string F)).ownsRow B 9 1 (.slice (some ⟨g, 0, none⟩) n cap) n (strs (L.set q F)) := by
  obtain ⟨h1, h2⟩ := h
  rcases h2 with ⟨h, _⟩ | ⟨g', cap', cur, hv, hb, hg, k1, k2, k3, k4⟩
  · cases h
  · cases hv
    refine ⟨by rw [strs_length, List.length_set, ← strs_length]; exact h1, .inr ⟨g, cap, cur.setIfInBounds q (.string F), rfl, hb, setCell_row hg q _, k1, k2, by simpa using k3, ?_⟩⟩
    rw [Array.toList_setIfInBounds, List.take_set, k4, strs, strs, List.map_set]
theorem own_free {w : World} {B g n cap : Nat} {t : TypeId} {xs : List Value} (h : w.ownsRow B t 1 (.slice (some ⟨g, 0, none⟩) n cap) n xs) (q : Nat) : w.frozen? ⟨g, q, none⟩ = false := by
  rcases h.2 with ⟨h, _⟩ | ⟨g', cap', cur, hv, hb, hg, _⟩
  · cases h
  · cases hv
    exact row_free hg q
theorem own_copy {w : World} {B g n cap : Nat} {t : TypeId} {xs : List Value} (h : w.ownsRow B t 1 (.slice (some ⟨g, 0, none⟩) (0 + n) cap) (0 + n) ([] ++ xs)) : w.ownsRow B t 1 (.slice (some ⟨g, 0, none⟩) n cap) n xs := by
  rw [Nat.zero_add, List.nil_append] at h
  exact h
theorem own_cell {w : World} {B g n cap : Nat} {L : List ByteArray} (h : w.ownsRow B 9 1 (.slice (some ⟨g, 0, none⟩) n cap) n (strs L)) {q : Nat} {s : ByteArray} (hs : (strs L)[q]? = some (.string s)) : w.cell? ⟨g, q, none⟩ = some (.string s) := by
  have := h.cells (g := g) rfl q _ hs
  rwa [Addr.add_lit, Nat.zero_add] at this
/-- what the call owns: dice, and a list of strings above them -/
structure Stk (w : World) (base g : Nat) (zs : List Int) (k : Nat) (v : Value) (L : List ByteArray) : Prop where
  dice : Dice w base g zs k
  own : w.ownsRow (g + 1) 9 1 v L.length (strs L)
theorem Stk.nil {w : World} {base g : Nat} {zs : List Int} {k : Nat} (h : Dice w base g zs k) : Stk w base g zs k (.slice none 0 0) [] := ⟨h, World.ownsRow_nil w _ _ _⟩
theorem own_ne {w : World} {B g : Nat} {t : TypeId} {v : Value} {n : Nat} {xs : List Value} (h : w.ownsRow B t 1 v n xs) (hg : g < B) : v.ownBlock = none ∨ v.ownBlock ≠ some g := by
  refine .inr fun e => ?_
  have := (h.lt g e).1
  omega
theorem Stk.made {w w' : World} {base g : Nat} {zs : List Int} {k k' : Nat} {v : Value} {L : List ByteArray} (h : Stk w base g zs k v L) (hd : Dice w' base g zs k') (hg : w.grownBy w' (some g)) : Stk w' base g zs k' v L :=
  ⟨hd, h.own.kept hg (own_ne h.own (Nat.lt_succ_self g))⟩
theorem Stk.on {w w' : World} {base g : Nat} {zs : List Int} {k : Nat} {v : Value} {L : List ByteArray} (h : Stk w base g zs k v L) (hb : Below w.heap.size w w') : Stk w' base g zs k v L :=
  ⟨dice_on h.dice hb (Nat.le_refl _), owns_on h.own hb⟩
theorem Stk.al {w : World} {base g : Nat} {zs : List Int} {k : Nat} {v : Value} {L : List ByteArray} (h : Stk w base g zs k v L) (o : Obj) : Stk (w.alloc o) base g zs k v L :=
  h.on ((Below.refl _ _).alloc (Nat.le_refl _) _)
theorem dice_grow {w w' : World} {base g B : Nat} {t : TypeId} {zs : List Int} {k : Nat} {v : Value} {n : Nat} {xs : List Value} (h : Dice w base g zs k) (ho : w.ownsRow B t 1 v n xs) (hB : g < B) (hg : w.grownBy w' v.ownBlock) : Dice w' base g zs k := by
  cases hv : v.ownBlock with
  | none =>
    rw [hv] at hg
    exact dice_on h ⟨hg.os, hg.tape, hg.output, hg.size, fun i hi => hg.block i hi (by simp)⟩ (Nat.le_refl _)
  | some b =>
    rw [hv] at hg
    exact dice_far h hg (by have := (ho.lt b hv).1; omega)
theorem Stk.app {w w' : World} {base g : Nat} {zs : List Int} {k : Nat} {v v' : Value} {L : List ByteArray} {s : ByteArray} (h : Stk w base g zs k v L) (ho : w'.ownsRow (g + 1) 9 1 v' (L.length + 1) (strs L ++ [.string s])) (hg : w.grownBy w' v.ownBlock) : Stk w' base g zs k v' (L ++ [s]) :=
  ⟨dice_grow h.dice h.own (Nat.lt_succ_self g) hg, by rw [strs_app, List.length_append]; exact ho⟩
/-- what lies below stays, however the list grows -/
theorem below_grow {B : Nat} {w0 w w' : World} {C : Nat} {t : TypeId} {v : Value} {n : Nat} {xs : List Value} (hb : Below B w0 w) (ho : w.ownsRow C t 1 v n xs) (hC : B ≤ C) (hB : B ≤ w.heap.size) (hg : w.grownBy w' v.ownBlock) : Below B w0 w' :=
  hb.grown hg hB (fun k hk => by have := (ho.lt k hk).1; omega)
end Go.Proofs.Ytjihkcjoaefppaa
