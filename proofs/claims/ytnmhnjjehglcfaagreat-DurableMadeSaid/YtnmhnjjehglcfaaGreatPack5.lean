/- Texts that belong together, part 5. -/
import Derived.Test.YtnmhnjjehglcfaaGreatPack2
import Derived.Deep.AppendLies
import Derived.OwnWalk
import Derived.WalkKit
import Derived.WalkMore
import Derived.Lib.Hide

/- Lists of entries that lie in memory, in the blocks of a set; lists that the call owns. -/
namespace Go.Proofs.YtnmhnjjehglcfaaGreat.Ents
open Go.RowKit Plan EntMath

theorem ent_add_off (x : Addr) (m n : Nat) : x.add (m + (n + 1)) = ⟨(x.add m).block, (x.add m).off + (n + 1), none⟩ := by rw [← Addr.add_add, Addr.add_succ']
theorem ent_add_block (x : Addr) (i : Nat) : (x.add i).block = x.block := by unfold Addr.add; split <;> rfl
/-- two worlds that agree on the blocks of a set -/
def Same (F : Nat → Prop) (w w' : World) : Prop := w.heap.size ≤ w'.heap.size ∧ ∀ b, F b → b < w.heap.size → w'.heap[b]? = w.heap[b]?
theorem Same.cell {F : Nat → Prop} {w w' : World} (h : Same F w w') {x : Addr} {v : Value} (hx : F x.block) (hc : w.cell? x = some v) : w'.cell? x = some v := by
  rw [World.cell?_of_block (h.2 x.block hx (World.block_lt_of_cell? w _ hc)), hc]
theorem Same.refl (F : Nat → Prop) (w : World) : Same F w w := ⟨Nat.le_refl _, fun _ _ _ => rfl⟩
theorem Same.trans {F : Nat → Prop} {a b c : World} (h : Same F a b) (k : Same F b c) : Same F a c := ⟨Nat.le_trans h.1 k.1, fun x hx hl => (k.2 x hx (Nat.lt_of_lt_of_le hl h.1)).trans (h.2 x hx hl)⟩
theorem Same.below {F : Nat → Prop} {w w' : World} (hb : Below w.heap.size w w') : Same F w w' := ⟨hb.size, fun b _ hlt => hb.block b hlt⟩
theorem Same.low {B : Nat} {w w' : World} (hb : Below B w w') : Same (fun b => b < B) w w' := ⟨hb.size, fun b h _ => hb.block b h⟩
theorem Same.alloc {F : Nat → Prop} (w : World) (o : Obj) : Same F w (w.alloc o) := Same.below ((Below.refl _ _).alloc (Nat.le_refl _) o)
theorem Same.row {F : Nat → Prop} {w : World} {r : Nat} (hr : ¬ F r) (cs : Array Value) : Same F w (w.setRow r cs) :=
  ⟨Nat.le_of_eq (by simp [World.setRow]), fun b hb _ => setRow_other _ _ _ _ (fun e => hr (e ▸ hb))⟩
theorem Same.setCell {F : Nat → Prop} {w : World} {p : Addr} (hr : ¬ F p.block) (u : Value) : Same F w (w.setCell p u) :=
  ⟨Nat.le_of_eq (by simp [World.setCell]), fun b hb _ => Below.heap_setCell _ _ _ _ (fun e => hr (e ▸ hb))⟩
/-- an entry as cells, as a value, as a row; a list of entries as cells -/
def entC (e : Ent) : List Value := [.int .i64 e.block, .int .i64 e.kind, .int .i64 e.version, .int .i64 e.move, .int .i64 e.zone, .int .i64 e.offset]
def ents (L : List Ent) : List Value := L.flatMap entC
theorem ents_cons (e : Ent) (L : List Ent) : ents (e :: L) = entC e ++ ents L := rfl
theorem ents_take (L : List Ent) (k : Nat) : ents (L.take k) = (ents L).take (k * 6) := by
  induction L generalizing k with
  | nil => simp [ents]
  | cons e L ih =>
    cases k with
    | zero => simp [ents]
    | succ k =>
      have hl : (entC e).length = 6 := rfl
      rw [List.take_succ_cons, ents_cons, ents_cons, ih, List.take_append, List.take_of_length_le (l := entC e) (by omega), hl, show (k + 1) * 6 - 6 = k * 6 by omega]
/-- an entry in memory: its cells as a walk spells them -/
abbrev EntAt (w : World) (x : Addr) (i : Nat) (e : Ent) : Prop :=
  w.cell? (x.add (i * 6)) = some (.int .i64 e.block) ∧ w.cell? ⟨(x.add (i * 6)).block, (x.add (i * 6)).off + 1, none⟩ = some (.int .i64 e.kind) ∧
  w.cell? ⟨(x.add (i * 6)).block, (x.add (i * 6)).off + 2, none⟩ = some (.int .i64 e.version) ∧ w.cell? ⟨(x.add (i * 6)).block, (x.add (i * 6)).off + 3, none⟩ = some (.int .i64 e.move) ∧
  w.cell? ⟨(x.add (i * 6)).block, (x.add (i * 6)).off + 4, none⟩ = some (.int .i64 e.zone) ∧ w.cell? ⟨(x.add (i * 6)).block, (x.add (i * 6)).off + 5, none⟩ = some (.int .i64 e.offset)
/-- a list of entries -/
def EList (w : World) (F : Nat → Prop) (a : Option Addr) (len cap : Nat) (L : List Ent) : Prop :=
  (True ∧ len = 0 ∧ cap = 0 ∧ L = []) ∨
  ∃ x, a = some x ∧ len ≤ cap ∧ cap ≤ maxLen ∧ L.length = len ∧ x.block < w.heap.size ∧ F x.block ∧ ∀ j u, (ents L)[j]? = some u → w.cell? (x.add j) = some u
theorem EList.nil (w : World) (F : Nat → Prop) : EList w F none 0 0 [] := .inl ⟨trivial, rfl, rfl, rfl⟩
theorem EList.length {w : World} {F : Nat → Prop} {a : Option Addr} {len cap : Nat} {L : List Ent} (h : EList w F a len cap L) : L.length = len := by
  rcases h with ⟨_, rfl, _, rfl⟩ | ⟨x, _, _, _, h4, _⟩
  · rfl
  · exact h4
theorem EList.cap {w : World} {F : Nat → Prop} {a : Option Addr} {len cap : Nat} {L : List Ent} (h : EList w F a len cap L) : len ≤ cap ∧ cap ≤ maxLen := by
  rcases h with ⟨_, rfl, rfl, rfl⟩ | ⟨x, _, h2, h3, _⟩
  · exact ⟨Nat.le_refl _, Nat.zero_le _⟩
  · exact ⟨h2, h3⟩
theorem EList.on {F : Nat → Prop} {w w' : World} {a : Option Addr} {len cap : Nat} {L : List Ent} (h : EList w F a len cap L) (hw : Same F w w') : EList w' F a len cap L := by
  rcases h with h | ⟨x, h1, h2, h3, h4, h5, h6, h7⟩
  · exact .inl h
  · exact .inr ⟨x, h1, h2, h3, h4, Nat.lt_of_lt_of_le h5 hw.1, h6, fun j u hu => hw.cell (by rw [ent_add_block]; exact h6) (h7 j u hu)⟩
theorem EList.mono {F G : Nat → Prop} {w : World} {a : Option Addr} {len cap : Nat} {L : List Ent} (h : EList w F a len cap L) (hFG : ∀ b, b < w.heap.size → F b → G b) : EList w G a len cap L := by
  rcases h with h | ⟨x, h1, h2, h3, h4, h5, h6, h7⟩
  · exact .inl h
  · exact .inr ⟨x, h1, h2, h3, h4, h5, hFG _ h5 h6, h7⟩
theorem EList.cut {F : Nat → Prop} {w : World} {a : Option Addr} {len cap : Nat} {L : List Ent} (h : EList w F a len cap L) : EList w (fun b => F b ∧ b < w.heap.size) a len cap L := h.mono fun _ hb hf => ⟨hf, hb⟩
theorem e_on {B g : Nat} {W w1 : World} {x : Option Obj} (hb : Below B W w1) (h : W.heap[g]? = x) (hg : g < B) : w1.heap[g]? = x := heap_old hb hg h
theorem e_al {g : Nat} {w : World} {o : Obj} (h : w.heap[g]? = some o) (o2 : Obj) : (w.alloc o2).heap[g]? = some o := (Below.heap_alloc _ _ _ (Array.getElem?_eq_some_iff.1 h).1).trans h
theorem e_lt {g : Nat} {w : World} {o : Obj} (h : w.heap[g]? = some o) : g < w.heap.size := (Array.getElem?_eq_some_iff.1 h).1
end Go.Proofs.YtnmhnjjehglcfaaGreat.Ents

/- The walks of the document's entry, place and Valid. -/
namespace Go.Proofs.YtnmhnjjehglcfaaGreat.Ents
open Go.RowKit Plan EntMath
end Go.Proofs.YtnmhnjjehglcfaaGreat.Ents

/- The walk of the document's Valid. -/
namespace Go.Proofs.YtnmhnjjehglcfaaGreat.Ents
open Go.RowKit Plan EntMath
theorem EntAt.kept {w w' : World} {x : Addr} {i : Nat} {e : Ent} (h : EntAt w x i e) (hb : Below w.heap.size w w') (hx : x.block < w.heap.size) : EntAt w' x i e := by
  have hc : ∀ y : Addr, y.block = x.block → w'.cell? y = w.cell? y := fun y hy => hb.cell (by rw [hy]; exact hx)
  obtain ⟨h0, h1, h2, h3, h4, h5⟩ := h
  have hB : (x.add (i * 6)).block = x.block := ent_add_block x _
  exact ⟨(hc _ hB).trans h0, (hc ⟨(x.add (i * 6)).block, (x.add (i * 6)).off + 1, none⟩ hB).trans h1, (hc ⟨(x.add (i * 6)).block, (x.add (i * 6)).off + 2, none⟩ hB).trans h2, (hc ⟨(x.add (i * 6)).block, (x.add (i * 6)).off + 3, none⟩ hB).trans h3, (hc ⟨(x.add (i * 6)).block, (x.add (i * 6)).off + 4, none⟩ hB).trans h4, (hc ⟨(x.add (i * 6)).block, (x.add (i * 6)).off + 5, none⟩ hB).trans h5⟩
theorem EntAt.lt {w : World} {x : Addr} {i : Nat} {e : Ent} (h : EntAt w x i e) : x.block < w.heap.size := by
  have := World.block_lt_of_cell? w _ h.1
  rwa [ent_add_block] at this
end Go.Proofs.YtnmhnjjehglcfaaGreat.Ents

/- The walk of the document's Find. -/
namespace Go.Proofs.YtnmhnjjehglcfaaGreat.Ents
open Go.RowKit Plan EntMath
end Go.Proofs.YtnmhnjjehglcfaaGreat.Ents

/- Where a walk with any number of boxes of its own stands: what each box holds, and that all below is as it was. -/
namespace Go.Proofs.YtnmhnjjehglcfaaGreat.Ents
open Go.RowKit Plan
structure Bxs (w W : World) (B : List (Nat × Obj)) : Prop where
  at' : ∀ x ∈ B, W.heap[x.1]? = some x.2
  lo : ∀ x ∈ B, w.heap.size ≤ x.1
  nd : (B.map (·.1)).Nodup
  hb : Below w.heap.size w W
section
variable {w W W' : World} {B : List (Nat × Obj)}
theorem Bxs.start (w : World) : Bxs w w [] := ⟨fun _ h => absurd h (by simp), fun _ h => absurd h (by simp), List.nodup_nil, Below.refl _ _⟩
theorem Bxs.get (K : Bxs w W B) (i : Nat) {g : Nat} {o : Obj} (h : B[i]? = some (g, o)) : W.heap[g]? = some o := K.at' _ (List.mem_of_getElem? h)
theorem Bxs.on (K : Bxs w W B) (h : Below W.heap.size W W') : Bxs w W' B := ⟨fun x hx => e_on h (K.at' x hx) (e_lt (K.at' x hx)), K.lo, K.nd, K.hb.trans (h.mono K.hb.size)⟩
theorem Bxs.lt (K : Bxs w W B) {x : Nat × Obj} (h : x ∈ B) : x.1 < W.heap.size := e_lt (K.at' x h)
theorem Bxs.drew (K : Bxs w W B) : Bxs w W.drew B := K.on (Below.refl _ _).drew
theorem Bxs.al' (K : Bxs w W B) (o : Obj) : Bxs w (W.alloc o) B := K.on ((Below.refl _ _).alloc (Nat.le_refl _) o)
theorem Bxs.al (K : Bxs w W B) (o : Obj) : Bxs w (W.alloc o) ((W.heap.size, o) :: B) := by
  have h := K.al' o
  refine ⟨fun x hx => ?_, fun x hx => ?_, ?_, h.hb⟩
  · rcases List.mem_cons.1 hx with rfl | hx
    · exact heap_alloc_new W o
    · exact h.at' x hx
  · rcases List.mem_cons.1 hx with rfl | hx
    · exact K.hb.size
    · exact K.lo x hx
  · rw [List.map_cons, List.nodup_cons]
    refine ⟨fun hm => ?_, K.nd⟩
    obtain ⟨y, hy, he⟩ := List.mem_map.1 hm
    have := K.lt hy
    omega
theorem nodup_ne {l : List Nat} (h : l.Nodup) {i j : Nat} {a b : Nat} (hi : l[i]? = some a) (hj : l[j]? = some b) (hne : i ≠ j) : a ≠ b := by
  rintro rfl
  obtain ⟨h1, h2⟩ := List.getElem?_eq_some_iff.1 hi
  obtain ⟨h3, h4⟩ := List.getElem?_eq_some_iff.1 hj
  have hp := List.pairwise_iff_getElem.1 h
  rcases Nat.lt_or_ge i j with hl | hl
  · exact hp i j h1 h3 hl (h2.trans h4.symm)
  · exact hp j i h3 h1 (by omega) (h4.trans h2.symm)
theorem Bxs.put (K : Bxs w W B) (i : Nat) {g : Nat} {cs cs' : Array Value} {t : TypeId} (h : B[i]? = some (g, .cells cs t (0, 0))) {B' : List (Nat × Obj)} (hB : B' = B.set i (g, .cells cs' t (0, 0))) : Bxs w (W.setRow g cs') B' := by
  subst hB
  have hg := K.get i h
  have hi : i < B.length := (List.getElem?_eq_some_iff.1 h).1
  have hlo : w.heap.size ≤ g := K.lo (g, _) (List.mem_of_getElem? h)
  have hm : (B.set i (g, .cells cs' t (0, 0))).map (·.1) = B.map (·.1) := by
    rw [List.map_set]
    refine List.ext_getElem? fun j => ?_
    rw [List.getElem?_set]
    by_cases hj : i = j
    · subst hj
      rw [if_pos rfl, if_pos (by simpa using hi), List.getElem?_map, h]
      rfl
    · rw [if_neg hj]
  refine ⟨fun x hx => ?_, fun x hx => ?_, by rw [hm]; exact K.nd, below_setRow K.hb hlo _⟩
  · obtain ⟨j, hj⟩ := List.mem_iff_getElem?.1 hx
    rw [List.getElem?_set] at hj
    by_cases hij : i = j
    · subst hij
      rw [if_pos rfl, if_pos hi] at hj
      obtain rfl := Option.some.inj hj
      exact setRow_heap _ _ _ _ _ _ hg
    · rw [if_neg hij] at hj
      have hne := nodup_ne K.nd (i := i) (j := j) (a := g) (b := x.1) (by rw [List.getElem?_map, h]; rfl) (by rw [List.getElem?_map, hj]; rfl) hij
      exact (setRow_other _ _ _ _ (fun e => hne e.symm)).trans (K.at' x (List.mem_of_getElem? hj))
  · obtain ⟨j, hj⟩ := List.mem_iff_getElem?.1 hx
    rw [List.getElem?_set] at hj
    by_cases hij : i = j
    · subst hij
      rw [if_pos rfl, if_pos hi] at hj
      obtain rfl := Option.some.inj hj
      exact hlo
    · rw [if_neg hij] at hj
      exact K.lo x (List.mem_of_getElem? hj)
/-- a list that the walk owns grows: the boxes stay, if it lies in none of them -/
theorem Bxs.grown {o : Option Nat} (K : Bxs w W B) (h : W.grownBy W' o) (ho : ∀ z, o = some z → w.heap.size ≤ z ∧ ∀ x ∈ B, x.1 ≠ z) : Bxs w W' B :=
  ⟨fun x hx => (h.block _ (K.lt hx) (fun e => (ho _ e.symm).2 x hx rfl)).trans (K.at' x hx), K.lo, K.nd, K.hb.grown h K.hb.size (fun z hz => (ho z hz).1)⟩
end
end Go.Proofs.YtnmhnjjehglcfaaGreat.Ents
