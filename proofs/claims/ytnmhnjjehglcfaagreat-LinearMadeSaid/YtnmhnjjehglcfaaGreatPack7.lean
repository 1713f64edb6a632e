/- Texts that belong together, part 7. -/
import Derived.Test.YtnmhnjjehglcfaaGreatPack6

/- The walks of the document's entry, place and Valid. -/
namespace Go.Proofs.YtnmhnjjehglcfaaGreat.Ents
open Go.RowKit Plan EntMath
end Go.Proofs.YtnmhnjjehglcfaaGreat.Ents

/- The walk of the document's Valid. -/
namespace Go.Proofs.YtnmhnjjehglcfaaGreat.Ents
open Go.RowKit Plan EntMath
theorem EntAt.kept {w w' : World} {x : Addr} {i : Nat} {e : Ent} (h : EntAt w x i e) (hb : Below w.heap.size w w') (hx : x.block < w.heap.size) : EntAt w' x i e := by
  have hc : ∀ y : Addr, y.block = x.block → w'.cell? y = w.cell? y := fun y hy => hb.cell (by rw [hy]; exact hx)
  obtain ⟨h0, h1, h2, h3, h4, h5⟩ := h
  have hB : (x.add (i * 6)).block = x.block := ent_add_block x _
  exact ⟨(hc _ hB).trans h0, (hc ⟨(x.add (i * 6)).block, (x.add (i * 6)).off + 1, none⟩ hB).trans h1, (hc ⟨(x.add (i * 6)).block, (x.add (i * 6)).off + 2, none⟩ hB).trans h2, (hc ⟨(x.add (i * 6)).block, (x.add (i * 6)).off + 3, none⟩ hB).trans h3, (hc ⟨(x.add (i * 6)).block, (x.add (i * 6)).off + 4, none⟩ hB).trans h4, (hc ⟨(x.add (i * 6)).block, (x.add (i * 6)).off + 5, none⟩ hB).trans h5⟩
theorem EntAt.lt {w : World} {x : Addr} {i : Nat} {e : Ent} (h : EntAt w x i e) : x.block < w.heap.size := by
  have := World.block_lt_of_cell? w _ h.1
  rwa [ent_add_block] at this
end Go.Proofs.YtnmhnjjehglcfaaGreat.Ents

/- The walk of the document's Find. -/
namespace Go.Proofs.YtnmhnjjehglcfaaGreat.Ents
open Go.RowKit Plan EntMath
end Go.Proofs.YtnmhnjjehglcfaaGreat.Ents

/- Where a walk with any number of boxes of its own stands: what each box holds, and that all below is as it was. -/
namespace Go.Proofs.YtnmhnjjehglcfaaGreat.Ents
open Go.RowKit Plan
structure Bxs (w W : World) (B : List (Nat × Obj)) : Prop where
  at' : ∀ x ∈ B, W.heap[x.1]? = some x.2
  lo : ∀ x ∈ B, w.heap.size ≤ x.1
  nd : (B.map (·.1)).Nodup
  hb : Below w.heap.size w W
section
variable {w W W' : World} {B : List (Nat × Obj)}
theorem Bxs.start (w : World) : Bxs w w [] := ⟨fun _ h => absurd h (by simp), fun _ h => absurd h (by simp), List.nodup_nil, Below.refl _ _⟩
theorem Bxs.get (K : Bxs w W B) (i : Nat) {g : Nat} {o : Obj} (h : B[i]? = some (g, o)) : W.heap[g]? = some o := K.at' _ (List.mem_of_getElem? h)
theorem Bxs.on (K : Bxs w W B) (h : Below W.heap.size W W') : Bxs w W' B := ⟨fun x hx => e_on h (K.at' x hx) (e_lt (K.at' x hx)), K.lo, K.nd, K.hb.trans (h.mono K.hb.size)⟩
theorem Bxs.lt (K : Bxs w W B) {x : Nat × Obj} (h : x ∈ B) : x.1 < W.heap.size := e_lt (K.at' x h)
theorem Bxs.drew (K : Bxs w W B) : Bxs w W.drew B := K.on (Below.refl _ _).drew
theorem Bxs.al' (K : Bxs w W B) (o : Obj) : Bxs w (W.alloc o) B := K.on ((Below.refl _ _).alloc (Nat.le_refl _) o)
theorem Bxs.al (K : Bxs w W B) (o : Obj) : Bxs w (W.alloc o) ((W.heap.size, o) :: B) := by
  have h := K.al' o
  refine ⟨fun x hx => ?_, fun x hx => ?_, ?_, h.hb⟩
  · rcases List.mem_cons.1 hx with rfl | hx
    · exact heap_alloc_new W o
    · exact h.at' x hx
  · rcases List.mem_cons.1 hx with rfl | hx
    · exact K.hb.size
    · exact K.lo x hx
  · rw [List.map_cons, List.nodup_cons]
    refine ⟨fun hm => ?_, K.nd⟩
    obtain ⟨y, hy, he⟩ := List.mem_map.1 hm
    have := K.lt hy
    omega
theorem nodup_ne {l : List Nat} (h : l.Nodup) {i j : Nat} {a b : Nat} (hi : l[i]? = some a) (hj : l[j]? = some b) (hne : i ≠ j) : a ≠ b := by
  rintro rfl
  obtain ⟨h1, h2⟩ := List.getElem?_eq_some_iff.1 hi
  obtain ⟨h3, h4⟩ := List.getElem?_eq_some_iff.1 hj
  have hp := List.pairwise_iff_getElem.1 h
  rcases Nat.lt_or_ge i j with hl | hl
  · exact hp i j h1 h3 hl (h2.trans h4.symm)
  · exact hp j i h3 h1 (by omega) (h4.trans h2.symm)
theorem Bxs.put (K : Bxs w W B) (i : Nat) {g : Nat} {cs cs' : Array Value} {t : TypeId} (h : B[i]? = some (g, .cells cs t (0, 0))) {B' : List (Nat × Obj)} (hB : B' = B.set i (g, .cells cs' t (0, 0))) : Bxs w (W.setRow g cs') B' := by
  subst hB
  have hg := K.get i h
  have hi : i < B.length := (List.getElem?_eq_some_iff.1 h).1
  have hlo : w.heap.size ≤ g := K.lo (g, _) (List.mem_of_getElem? h)
  have hm : (B.set i (g, .cells cs' t (0, 0))).map (·.1) = B.map (·.1) := by
    rw [List.map_set]
    refine List.ext_getElem? fun j => ?_
    rw [List.getElem?_set]
    by_cases hj : i = j
    · subst hj
      rw [if_pos rfl, if_pos (by simpa using hi), List.getElem?_map, h]
      rfl
    · rw [if_neg hj]
  refine ⟨fun x hx => ?_, fun x hx => ?_, by rw [hm]; exact K.nd, below_setRow K.hb hlo _⟩
  · obtain ⟨j, hj⟩ := List.mem_iff_getElem?.1 hx
    rw [List.getElem?_set] at hj
    by_cases hij : i = j
    · subst hij
      rw [if_pos rfl, if_pos hi] at hj
      obtain rfl := Option.some.inj hj
      exact setRow_heap _ _ _ _ _ _ hg
    · rw [if_neg hij] at hj
      have hne := nodup_ne K.nd (i := i) (j := j) (a := g) (b := x.1) (by rw [List.getElem?_map, h]; rfl) (by rw [List.getElem?_map, hj]; rfl) hij
      exact (setRow_other _ _ _ _ (fun e => hne e.symm)).trans (K.at' x (List.mem_of_getElem? hj))
  · obtain ⟨j, hj⟩ := List.mem_iff_getElem?.1 hx
    rw [List.getElem?_set] at hj
    by_cases hij : i = j
    · subst hij
      rw [if_pos rfl, if_pos hi] at hj
      obtain rfl := Option.some.inj hj
      exact hlo
    · rw [if_neg hij] at hj
      exact K.lo x (List.mem_of_getElem? hj)
/-- a list that the walk owns grows: the boxes stay, if it lies in none of them -/
theorem Bxs.grown {o : Option Nat} (K : Bxs w W B) (h : W.grownBy W' o) (ho : ∀ z, o = some z → w.heap.size ≤ z ∧ ∀ x ∈ B, x.1 ≠ z) : Bxs w W' B :=
  ⟨fun x hx => (h.block _ (K.lt hx) (fun e => (ho _ e.symm).2 x hx rfl)).trans (K.at' x hx), K.lo, K.nd, K.hb.grown h K.hb.size (fun z hz => (ho z hz).1)⟩
end
end Go.Proofs.YtnmhnjjehglcfaaGreat.Ents
