/- Texts that belong together, part 6. -/
import Derived.Test.YtkamadeekkccgaaPack5
import Derived.Laws.AppendOwn
import Derived.Deep.OwnRows
import Derived.Maps.AppendAt

/- Histories: what the document's functions of layer 18 give, as plain functions of lists. -/
namespace Go.Proofs.Ytkamadeekkccgaa.HisMath
structure Ev where
  ret : Bool
  queue : Int
  serial : Int
  kind : Int
  block : Int
  data : ByteArray
  err : Int
  res : ByteArray
deriving DecidableEq
def seek (p : Ev → Bool) (l : List Ev) : Int := match l.findIdx? p with | some i => (i : Int) | none => -1
def invP (s : Int) (x : Ev) : Bool := !x.ret && decide (x.serial = s)
def retP (s : Int) (x : Ev) : Bool := x.ret && decide (x.serial = s)
def invI (l : List Ev) (s : Int) : Int := seek (invP s) l
def retI (l : List Ev) (s : Int) : Int := seek (retP s) l
def fitsB (kind err : Int) (n : Nat) : Bool :=
  if err = 0 then (if kind = 1 then decide (n = 16) else decide (n = 0))
  else if err = 7 ∨ err = 1 ∨ err = 2 ∨ err = 3 ∨ err = 12 then decide (n = 0) else false
def beforeB (l : List Ev) (a b : Int) : Bool := decide (0 ≤ retI l a) && decide (0 ≤ invI l b) && decide (retI l a < invI l b)
theorem seek_at {p : Ev → Bool} {l : List Ev} {j : Nat} {e : Ev} (h : l[j]? = some e) (hp : p e = true) (hb : ∀ i x, i < j → l[i]? = some x → p x = false) : seek p l = (j : Int) := by
  obtain ⟨hj, he⟩ := List.getElem?_eq_some_iff.1 h
  have : l.findIdx? p = some j := by
    rw [List.findIdx?_eq_some_iff_getElem]
    refine ⟨hj, by rw [he]; exact hp, fun i hi => ?_⟩
    rw [hb i _ hi (List.getElem?_eq_getElem (by omega))]
    simp
  unfold seek
  rw [this]
theorem seek_none {p : Ev → Bool} {l : List Ev} (hb : ∀ i x, i < l.length → l[i]? = some x → p x = false) : seek p l = -1 := by
  have : l.findIdx? p = none := by
    rw [List.findIdx?_eq_none_iff]
    intro x hx
    obtain ⟨i, hi, rfl⟩ := List.mem_iff_getElem.1 hx
    exact hb i _ hi (List.getElem?_eq_getElem hi)
  unfold seek
  rw [this]
end Go.Proofs.Ytkamadeekkccgaa.HisMath

/- Lists of numbers that lie in memory, in the blocks of a set; lists of numbers that the call owns. -/
namespace Go.Proofs.Ytkamadeekkccgaa.Ents
open Go.RowKit Plan EntMath
def IList (w : World) (F : Nat → Prop) (a : Option Addr) (len cap : Nat) (Z : List Int) : Prop :=
  (True ∧ len = 0 ∧ cap = 0 ∧ Z = []) ∨
  ∃ x, a = some x ∧ len ≤ cap ∧ cap ≤ maxLen ∧ Z.length = len ∧ x.block < w.heap.size ∧ F x.block ∧ ∀ (j : Nat) z, Z[j]? = some z → w.cell? (x.add j) = some (.int .i64 z)
theorem IList.nil (w : World) (F : Nat → Prop) : IList w F none 0 0 [] := .inl ⟨trivial, rfl, rfl, rfl⟩
theorem IList.length {w : World} {F : Nat → Prop} {a : Option Addr} {n c : Nat} {Z : List Int} (h : IList w F a n c Z) : Z.length = n := by
  rcases h with ⟨_, rfl, _, rfl⟩ | ⟨x, _, _, _, h4, _⟩
  · rfl
  · exact h4
theorem IList.cap {w : World} {F : Nat → Prop} {a : Option Addr} {n c : Nat} {Z : List Int} (h : IList w F a n c Z) : n ≤ c ∧ c ≤ maxLen := by
  rcases h with ⟨_, rfl, rfl, rfl⟩ | ⟨x, _, h2, h3, _⟩
  · exact ⟨Nat.le_refl _, Nat.zero_le _⟩
  · exact ⟨h2, h3⟩
theorem IList.on {F : Nat → Prop} {w w' : World} {a : Option Addr} {n c : Nat} {Z : List Int} (h : IList w F a n c Z) (hw : Same F w w') : IList w' F a n c Z := by
  rcases h with h | ⟨x, h1, h2, h3, h4, h5, h6, h7⟩
  · exact .inl h
  · exact .inr ⟨x, h1, h2, h3, h4, Nat.lt_of_lt_of_le h5 hw.1, h6, fun j z hz => hw.cell (by rw [ent_add_block]; exact h6) (h7 j z hz)⟩
theorem IList.mono {F G : Nat → Prop} {w : World} {a : Option Addr} {n c : Nat} {Z : List Int} (h : IList w F a n c Z) (hFG : ∀ b, b < w.heap.size → F b → G b) : IList w G a n c Z := by
  rcases h with h | ⟨x, h1, h2, h3, h4, h5, h6, h7⟩
  · exact .inl h
  · exact .inr ⟨x, h1, h2, h3, h4, h5, hFG _ h5 h6, h7⟩
theorem IList.cut {F : Nat → Prop} {w : World} {a : Option Addr} {n c : Nat} {Z : List Int} (h : IList w F a n c Z) : IList w (fun b => F b ∧ b < w.heap.size) a n c Z := h.mono fun _ hb hf => ⟨hf, hb⟩
theorem IList.low {F : Nat → Prop} {w : World} {a : Option Addr} {n c : Nat} {Z : List Int} (h : IList w F a n c Z) : IList w (fun b => b < w.heap.size) a n c Z := h.mono fun _ hb _ => hb
theorem IList.same {F : Nat → Prop} {w w' : World} {a : Option Addr} {n c : Nat} {Z : List Int} (h : IList w F a n c Z) (hb : Below w.heap.size w w') : IList w' (fun b => b < w.heap.size) a n c Z := h.low.on (Same.low hb)
theorem IList.at' {F : Nat → Prop} {w : World} {a : Option Addr} {n c : Nat} {Z : List Int} (h : IList w F a n c Z) (i : Nat) (hi : i < n) : ∃ x z, a = some x ∧ Z[i]? = some z ∧ w.cell? (x.add i) = some (.int .i64 z) := by
  have hl := h.length
  rcases h with ⟨_, rfl, _, _⟩ | ⟨x, h1, _, _, _, _, _, h7⟩
  · omega
  · have he : Z[i]? = some (Z[i]'(by omega)) := List.getElem?_eq_getElem _
    exact ⟨x, _, h1, he, h7 i _ he⟩
theorem IList.some' {F : Nat → Prop} {w : World} {a : Option Addr} {n c : Nat} {Z : List Int} (h : IList w F a n c Z) (hn : 0 < n) : ∃ x, a = some x ∧ x.block < w.heap.size ∧ ∀ (j : Nat) z, Z[j]? = some z → w.cell? (x.add j) = some (.int .i64 z) := by
  rcases h with ⟨_, rfl, _, _⟩ | ⟨x, h1, _, _, _, h5, _, h7⟩
  · omega
  · exact ⟨x, h1, h5, h7⟩
/-- a list of numbers as cells -/
def intC (Z : List Int) : List Value := Z.map fun z => .int .i64 z
theorem intC_len (Z : List Int) : (intC Z).length = Z.length := by simp [intC]
theorem intC_at {Z : List Int} {j : Nat} {z : Int} (h : Z[j]? = some z) : (intC Z)[j]? = some (.int .i64 z) := by simp [intC, h]
theorem intC_flat (Z : List Int) : ∀ u ∈ intC Z, u.oneCell' = true := by
  intro u hu
  obtain ⟨z, _, rfl⟩ := List.mem_map.1 hu
  rfl
theorem intC_set (Z : List Int) (i : Nat) (z : Int) : (intC Z).set i (.int .i64 z) = intC (Z.set i z) := by simp [intC, List.map_set]
theorem intC_cell {Z : List Int} {w : World} {x : Addr} (h : ∀ (j : Nat) z, Z[j]? = some z → w.cell? (x.add j) = some (.int .i64 z)) : ∀ j u, (intC Z)[j]? = some u → w.cell? (x.add j) = some u := by
  intro j u hu
  unfold intC at hu
  rw [List.getElem?_map] at hu
  cases hz : Z[j]? with
  | none => rw [hz] at hu; cases hu
  | some z =>
    rw [hz] at hu
    obtain rfl := Option.some.inj hu
    exact h j z hz
theorem own_ilist {w : World} {B : Nat} {v : Value} {n : Nat} {Z : List Int} {F : Nat → Prop} (h : w.ownsRow B 3 1 v n (intC Z)) (hF : ∀ b, v.ownBlock = some b → F b) : ∃ a c, v = .slice a n c ∧ IList w F a n c Z := by
  have hn : Z.length = n := by have := h.1; rw [intC_len] at this; omega
  rcases h.2 with ⟨rfl, rfl⟩ | ⟨g, cap, cur, rfl, _, hg, h1, h2, _⟩
  · exact ⟨none, 0, rfl, .inl ⟨trivial, rfl, rfl, List.length_eq_zero_iff.1 hn⟩⟩
  · exact ⟨_, _, rfl, .inr ⟨_, rfl, h1, h2, hn, (Array.getElem?_eq_some_iff.1 hg).1, hF g rfl, fun j z hz => h.cells (g := g) rfl j _ (intC_at hz)⟩⟩
theorem int_info : (Try.prog.info? 3).map (fun i => (i.zero, i.size, i.bytes)) = some (some (.int .i64 0), 1, 8) := by kernel_rfl
theorem ints_empty (w : World) {H : Nat} (hH : w.heap.size = H) : (w.alloc (.cells #[] 3)).ownsRow H 3 1 (.slice (some ⟨H, 0, none⟩) 0 0) 0 [] := by
  subst hH
  exact World.ownsRow_made (base := w.heap.size) (e := 3) (size := 1) w #[] 0 (Nat.le_refl _) (by unfold maxLen; decide) rfl
theorem int_own_cell {w : World} {B g n cap : Nat} {Z : List Int} {j : Nat} {z : Int} (h : w.ownsRow B 3 1 (.slice (some ⟨g, 0, none⟩) n cap) n (intC Z)) (hj : Z[j]? = some z) : w.cell? ⟨g, j, none⟩ = some (.int .i64 z) ∧ w.frozen? ⟨g, j, none⟩ = false := by
  constructor
  · have := h.cells (g := g) rfl j _ (intC_at hj)
    rw [Addr.add_lit, Nat.zero_add] at this
    exact this
  · rcases h.2 with ⟨h, _⟩ | ⟨g', cap', cur, hv, hb, hg, _⟩
    · cases h
    · cases hv
      simp [World.frozen?, hg]
theorem i_b {a b : Bool} (h : a = b) : Ending.returned (.bool a) = .returned (.bool b) := by rw [h]
end Go.Proofs.Ytkamadeekkccgaa.Ents

/- Where a walk stands: its boxes and the lists that it owns, in blocks apart from each other, and that all below is as it was (Env); which blocks it only reads (Quiet), and that a step leaves them alone (Keep). One lemma for each kind of step. -/
namespace Go.Proofs.Ytkamadeekkccgaa.Env
open Go.RowKit Plan Ents Rws
theorem owns_mono {w : World} {base base' : Nat} {e : TypeId} {size : Nat} {v : Value} {n : Nat} {xs : List Value} (h : w.ownsRow base e size v n xs) (hb : base' ≤ base) : w.ownsRow base' e size v n xs :=
  ⟨h.1, h.2.imp id fun ⟨g, cap, cur, e1, h1, r⟩ => ⟨g, cap, cur, e1, Nat.le_trans hb h1, r⟩⟩
inductive Thing where
  | box (g : Nat) (o : Obj)
  | own (t : TypeId) (sz : Nat) (v : Value) (n : Nat) (xs : List Value)
  | any (hs : Nat → Prop) (Q : World → Prop)
/-- the blocks of a thing -/
def Thing.has : Thing → Nat → Prop
  | .box g _, b => b = g
  | .own _ _ v _ _, b => v.ownBlock = some b
  | .any hs _, b => hs b
def Thing.holds (B : Nat) (W : World) : Thing → Prop
  | .box g o => B ≤ g ∧ W.heap[g]? = some o
  | .own t sz v n xs => W.ownsRow B t sz v n xs
  | .any hs Q => Q W ∧ (∀ b, hs b → B ≤ b ∧ b < W.heap.size) ∧ ∀ W1 W2 : World, Q W1 → W1.heap.size ≤ W2.heap.size → (∀ b, hs b → W2.heap[b]? = W1.heap[b]?) → Q W2
/-- a list of the call's own with elements of a type of its own -/
abbrev lst {α : Type} (R : Row α) (v : Value) (n : Nat) (L : List α) : Thing := .own R.et R.sz v n (R.all L)
abbrev slv (g n c : Nat) : Value := .slice (some ⟨g, 0, none⟩) n c
section
variable {B0 : Nat} {W W' : World} {x : Thing}
theorem Thing.holds.lt (h : x.holds B0 W) {g : Nat} (hg : x.has g) : B0 ≤ g ∧ g < W.heap.size := by
  cases x with
  | box g' o =>
    obtain rfl : g = g' := hg
    exact ⟨h.1, e_lt h.2⟩
  | own t sz v n xs => exact World.ownsRow.lt h g hg
  | any hs Q => exact h.2.1 g hg
theorem Thing.holds.same (h : x.holds B0 W) (hz : W.heap.size ≤ W'.heap.size) (hs : ∀ b, x.has b → W'.heap[b]? = W.heap[b]?) : x.holds B0 W' := by
  cases x with
  | box g p => exact ⟨h.1, (hs g rfl).trans h.2⟩
  | own t sz v n xs =>
    refine ⟨h.1, h.2.imp id ?_⟩
    rintro ⟨g, cap, cur, rfl, hb, hgg, rest⟩
    exact ⟨g, cap, cur, rfl, hb, (hs g rfl).trans hgg, rest⟩
  | any hs' Q => exact ⟨h.2.2 W W' h.1 hz hs, fun b hb => ⟨(h.2.1 b hb).1, Nat.lt_of_lt_of_le (h.2.1 b hb).2 hz⟩, h.2.2⟩
theorem Thing.holds.kept {o : Option Nat} (h : x.holds B0 W) (hg : W.grownBy W' o) (ho : ∀ g, x.has g → o ≠ some g) : x.holds B0 W' :=
  h.same hg.size fun b hb => hg.block b (h.lt hb).2 (fun e => ho b hb e.symm)
theorem Thing.holds.on (h : x.holds B0 W) (hb : Below W.heap.size W W') : x.holds B0 W' := h.same hb.size fun b hb' => hb.block b (h.lt hb').2
end
structure Env (w W : World) (T : List Thing) : Prop where
  hold : ∀ x ∈ T, x.holds w.heap.size W
  nd : ∀ (i j : Nat) (x y : Thing) (g : Nat), T[i]? = some x → T[j]? = some y → x.has g → y.has g → i = j
  hb : Below w.heap.size w W
section
variable {w W W' : World} {T : List Thing}
/-- to give the world of a walk a name: 'obtain ⟨w8, rfl⟩ := K.name' -/
theorem Env.name (_ : Env w W T) : ∃ W0, W0 = W := ⟨W, rfl⟩
theorem Env.start (w : World) : Env w w [] := ⟨fun _ h => absurd h (by simp), fun i _ _ _ _ h => by simp at h, Below.refl _ _⟩
theorem Env.at' (K : Env w W T) (i : Nat) {x : Thing} (h : T[i]? = some x) : x.holds w.heap.size W := K.hold _ (List.mem_of_getElem? h)
theorem Env.get (K : Env w W T) (i : Nat) {g : Nat} {o : Obj} (h : T[i]? = some (.box g o)) : W.heap[g]? = some o := (K.at' i h).2
theorem Env.lo (K : Env w W T) (i : Nat) {g : Nat} {o : Obj} (h : T[i]? = some (.box g o)) : w.heap.size ≤ g := (K.at' i h).1
theorem Env.lt (K : Env w W T) (i : Nat) {g : Nat} {o : Obj} (h : T[i]? = some (.box g o)) : g < W.heap.size := e_lt (K.get i h)
theorem Env.own (K : Env w W T) (i : Nat) {t : TypeId} {sz n : Nat} {v : Value} {xs : List Value} (h : T[i]? = some (.own t sz v n xs)) : W.ownsRow w.heap.size t sz v n xs := K.at' i h
theorem Env.on (K : Env w W T) (h : Below W.heap.size W W') : Env w W' T := ⟨fun x hx => (K.hold x hx).on h, K.nd, K.hb.trans (h.mono K.hb.size)⟩
theorem Env.drew (K : Env w W T) : Env w W.drew T := K.on (Below.refl _ _).drew
theorem Env.cons (K : Env w W T) (h : Below W.heap.size W W') {y : Thing} (hy : y.holds w.heap.size W') (hn : ∀ g, y.has g → W.heap.size ≤ g) : Env w W' (y :: T) := by
  have hap : ∀ (j : Nat) (z : Thing) (g : Nat), T[j]? = some z → y.has g → z.has g → False := fun j z g hz h1 h2 => by
    have a1 := hn g h1
    have a2 := ((K.hold z (List.mem_of_getElem? hz)).lt h2).2
    omega
  refine ⟨fun x hx => ?_, fun i j a b g hi hj ha hb => ?_, (K.on h).hb⟩
  · rcases List.mem_cons.1 hx with rfl | hx
    · exact hy
    · exact (K.hold x hx).on h
  · cases i with
    | zero =>
      cases j with
      | zero => rfl
      | succ j =>
        obtain rfl := Option.some.inj hi
        exact (hap j b g hj ha hb).elim
    | succ i =>
      cases j with
      | zero =>
        obtain rfl := Option.some.inj hj
        exact (hap i a g hi hb ha).elim
      | succ j => rw [K.nd i j a b g hi hj ha hb]
theorem Env.al (K : Env w W T) (o : Obj) : Env w (W.alloc o) (.box W.heap.size o :: T) :=
  K.cons ((Below.refl _ _).alloc (Nat.le_refl _) o) (show Thing.holds w.heap.size (W.alloc o) (.box W.heap.size o) from ⟨K.hb.size, heap_alloc_new W o⟩) (fun g hg => by obtain rfl : g = W.heap.size := hg; exact Nat.le_refl _)
theorem Env.al' (K : Env w W T) (o : Obj) : Env w (W.alloc o) T := K.on ((Below.refl _ _).alloc (Nat.le_refl _) o)
/-- a list without elements, in a block of its own; one without a block -/
theorem Env.empty {α : Type} (R : Row α) (K : Env w W T) : Env w (W.alloc (.cells #[] R.et)) (lst R (slv W.heap.size 0 0) 0 [] :: T) :=
  K.cons ((Below.refl _ _).alloc (Nat.le_refl _) _) (owns_mono (own_empty R W rfl) K.hb.size) (fun g hg => by obtain rfl := Option.some.inj hg; exact Nat.le_refl _)
theorem Env.nil {α : Type} (R : Row α) (K : Env w W T) : Env w W (lst R (.slice none 0 0) 0 [] :: T) :=
  K.cons (Below.refl _ _) (own_none R W _) (fun g hg => by cases hg)
/-- one thing changes, in its own block or into a new one; all others stay -/
theorem Env.set (K : Env w W T) {o : Option Nat} (h : W.grownBy W' o) (i : Nat) {x y : Thing} (hx : T[i]? = some x) (ho : ∀ g, o = some g → x.has g) (hy : y.holds w.heap.size W')
    (hn : ∀ g, y.has g → x.has g ∨ W.heap.size ≤ g) : Env w W' (T.set i y) := by
  have hkeep : ∀ (j : Nat) (z : Thing), j ≠ i → T[j]? = some z → z.holds w.heap.size W' := fun j z hji hz => by
    refine (K.at' j hz).kept h (fun g hg e => hji ?_)
    exact K.nd j i z x g hz hx hg (ho g e)
  have hap : ∀ (j : Nat) (z : Thing) (g : Nat), j ≠ i → T[j]? = some z → z.has g → y.has g → False := fun j z g hji hz h1 h2 => by
    rcases hn g h2 with h3 | h3
    · exact hji (K.nd j i z x g hz hx h1 h3)
    · have := ((K.at' j hz).lt h1).2
      omega
  have hlt : i < T.length := (List.getElem?_eq_some_iff.1 hx).1
  refine ⟨fun z hz => ?_, fun a b p q g ha hb hp hq => ?_, ?_⟩
  · obtain ⟨j, hj⟩ := List.mem_iff_getElem?.1 hz
    by_cases hji : j = i
    · subst hji
      rw [List.getElem?_set_self hlt] at hj
      obtain rfl := Option.some.inj hj
      exact hy
    · rw [List.getElem?_set_ne (fun e => hji e.symm)] at hj
      exact hkeep j z hji hj
  · by_cases hai : a = i
    · by_cases hbi : b = i
      · rw [hai, hbi]
      · subst hai
        rw [List.getElem?_set_self hlt] at ha
        obtain rfl := Option.some.inj ha
        rw [List.getElem?_set_ne (fun e => hbi e.symm)] at hb
        exact (hap b q g hbi hb hq hp).elim
    · rw [List.getElem?_set_ne (fun e => hai e.symm)] at ha
      by_cases hbi : b = i
      · subst hbi
        rw [List.getElem?_set_self hlt] at hb
        obtain rfl := Option.some.inj hb
        exact (hap a p g hai ha hp hq).elim
      · rw [List.getElem?_set_ne (fun e => hbi e.symm)] at hb
        exact K.nd a b p q g ha hb hp hq
  · exact K.hb.grown h K.hb.size (fun g hg => ((K.at' i hx).lt (ho g hg)).1)
/-- a whole row is stored into a box -/
theorem Env.put (K : Env w W T) (i : Nat) {g : Nat} {cs cs' : Array Value} {t : TypeId} (hx : T[i]? = some (.box g (.cells cs t (0, 0)))) {T' : List Thing} (hT : T' = T.set i (.box g (.cells cs' t (0, 0)))) : Env w (W.setRow g cs') T' := by
  subst hT
  have hg := K.get i hx
  have hgr : W.grownBy (W.setRow g cs') (some g) := ⟨rfl, rfl, rfl, by simp, fun k _ hk => setRow_other W g k _ (fun e => hk (by rw [e]))⟩
  exact K.set hgr i hx (fun g' h => (Option.some.inj h).symm) (show Thing.holds w.heap.size (W.setRow g cs') (.box g (.cells cs' t (0, 0))) from ⟨K.lo i hx, setRow_heap _ _ _ _ _ _ hg⟩) (fun g' h => .inl h)
/-- one cell of a box is stored, as a walk writes it -/
theorem Env.put1 (K : Env w W T) (i : Nat) {g : Nat} {cs cs' : Array Value} {t : TypeId} (hx : T[i]? = some (.box g (.cells cs t (0, 0)))) (o : Nat) (v : Value) (hc : cs.setIfInBounds o v = cs') {T' : List Thing} (hT : T' = T.set i (.box g (.cells cs' t (0, 0)))) : Env w (W.setCell ⟨g, o, none⟩ v) T' := by
  rw [setCell_eq_setRow W g o cs t (0, 0) v (K.get i hx), hc]
  exact K.put i hx hT
/-- the last step's things, without those that are not wanted any more, in another order -/
theorem Env.sub (K : Env w W T) (f : List Nat) {T' : List Thing} (hT : T' = f.filterMap (T[·]?)) (hf : f.Nodup) (hl : ∀ i ∈ f, i < T.length) : Env w W T' := by
  subst hT
  have hget : ∀ (i : Nat) (x : Thing), (f.filterMap (T[·]?))[i]? = some x → ∃ k, f[i]? = some k ∧ T[k]? = some x := by
    clear hf
    induction f with
    | nil => intro i x h; simp at h
    | cons k f ih =>
      intro i x h
      have hk := hl k (by simp)
      rw [List.filterMap_cons, List.getElem?_eq_getElem hk] at h
      cases i with
      | zero => exact ⟨k, rfl, by rw [List.getElem?_eq_getElem hk]; simpa using h⟩
      | succ i => exact ih (fun i hi => hl i (List.mem_cons_of_mem _ hi)) i x (by simpa using h)
  refine ⟨fun x hx => ?_, fun i j x y g hi hj hx hy => ?_, K.hb⟩
  · obtain ⟨k, _, hk⟩ := List.mem_filterMap.1 hx
    exact K.at' k hk
  · obtain ⟨k, hk, hkx⟩ := hget i x hi
    obtain ⟨l, hl', hly⟩ := hget j y hj
    have := K.nd k l x y g hkx hly hx hy
    subst this
    have h1 := (List.getElem?_eq_some_iff.1 hk).1
    have h2 := (List.getElem?_eq_some_iff.1 hl').1
    exact (List.getElem_inj (h₀ := h1) (h₁ := h2) hf).1 (by rw [(List.getElem_eq_iff h1).2 hk, (List.getElem_eq_iff h2).2 hl'])
/-- the blocks in which lists may lie that the walk only reads: those of F, or new ones; no box, and no list of its own -/
def Quiet (w : World) (F : Nat → Prop) (W : World) (T : List Thing) : Nat → Prop := fun b => (F b ∨ w.heap.size ≤ b) ∧ b < W.heap.size ∧ ∀ x ∈ T, ¬ x.has b
structure Keep (w : World) (F : Nat → Prop) (W : World) (T : List Thing) (W' : World) (T' : List Thing) : Prop where
  size : W.heap.size ≤ W'.heap.size
  rest : ∀ b, Quiet w F W T b → Quiet w F W' T' b
  same : ∀ b, Quiet w F W T b → W'.heap[b]? = W.heap[b]?
variable {F : Nat → Prop} {T' : List Thing}
abbrev Env.quiet (_ : Env w W T) (F : Nat → Prop) : Nat → Prop := Quiet w F W T
theorem Keep.on' (k : Keep w F W T W' T') : Same (Quiet w F W T) W W' := ⟨k.size, fun b hb _ => k.same b hb⟩
theorem Env.keep_refl (_ : Env w W T) : Keep w F W T W T := ⟨Nat.le_refl _, fun _ h => h, fun _ _ => rfl⟩
theorem Keep.trans {W2 : World} {T2 : List Thing} (k : Keep w F W T W' T') (k2 : Keep w F W' T' W2 T2) : Keep w F W T W2 T2 :=
  ⟨Nat.le_trans k.size k2.size, fun b h => k2.rest b (k.rest b h), fun b h => (k2.same b (k.rest b h)).trans (k.same b h)⟩
theorem Env.keep_on (_ : Env w W T) (h : Below W.heap.size W W') : Keep w F W T W' T :=
  ⟨h.size, fun _ hb => ⟨hb.1, Nat.lt_of_lt_of_le hb.2.1 h.size, hb.2.2⟩, fun b hb => h.block b hb.2.1⟩
theorem Env.keep_al (_ : Env w W T) (o : Obj) : Keep w F W T (W.alloc o) (.box W.heap.size o :: T) := by
  refine ⟨by simp, fun b hb => ⟨hb.1, by have := hb.2.1; simp; omega, fun x hx => ?_⟩, fun b hb => heap_alloc_old W o hb.2.1⟩
  rcases List.mem_cons.1 hx with rfl | hx
  · intro e
    have : b = W.heap.size := by first | exact e | exact (Option.some.inj e).symm
    have := hb.2.1
    omega
  · exact hb.2.2 x hx
theorem Env.keep_empty {α : Type} (R : Row α) (_ : Env w W T) : Keep w F W T (W.alloc (.cells #[] R.et)) (lst R (slv W.heap.size 0 0) 0 [] :: T) := by
  refine ⟨by simp, fun b hb => ⟨hb.1, by have := hb.2.1; simp; omega, fun x hx => ?_⟩, fun b hb => heap_alloc_old W _ hb.2.1⟩
  rcases List.mem_cons.1 hx with rfl | hx
  · intro e
    have : b = W.heap.size := by first | exact e | exact (Option.some.inj e).symm
    have := hb.2.1
    omega
  · exact hb.2.2 x hx
theorem Env.keep_nil {α : Type} (R : Row α) (_ : Env w W T) : Keep w F W T W (lst R (.slice none 0 0) 0 [] :: T) := by
  refine ⟨Nat.le_refl _, fun b hb => ⟨hb.1, hb.2.1, fun x hx => ?_⟩, fun _ _ => rfl⟩
  rcases List.mem_cons.1 hx with rfl | hx
  · intro e
    cases e
  · exact hb.2.2 x hx
/-- one thing changes, in its own block or into a new one -/
theorem Env.keep_set (_ : Env w W T) {o : Option Nat} (h : W.grownBy W' o) (i : Nat) {x y : Thing} (hx : T[i]? = some x) (ho : ∀ g, o = some g → x.has g)
    (hn : ∀ g, y.has g → x.has g ∨ W.heap.size ≤ g) : Keep w F W T W' (T.set i y) := by
  have hxm := List.mem_of_getElem? hx
  refine ⟨h.size, fun b hb => ⟨hb.1, Nat.lt_of_lt_of_le hb.2.1 h.size, fun z hz e => ?_⟩, fun b hb => h.block b hb.2.1 (fun e => hb.2.2 x hxm (ho b e.symm))⟩
  rcases List.mem_or_eq_of_mem_set hz with hz | rfl
  · exact hb.2.2 z hz e
  · rcases hn b e with h1 | h1
    · exact hb.2.2 x hxm h1
    · have := hb.2.1
      omega
theorem Env.keep_put (K : Env w W T) (i : Nat) {g : Nat} {cs cs' : Array Value} {t : TypeId} (hx : T[i]? = some (.box g (.cells cs t (0, 0)))) {T' : List Thing} (hT : T' = T.set i (.box g (.cells cs' t (0, 0)))) : Keep w F W T (W.setRow g cs') T' := by
  subst hT
  have hgr : W.grownBy (W.setRow g cs') (some g) := ⟨rfl, rfl, rfl, by simp, fun k _ hk => setRow_other W g k _ (fun e => hk (by rw [e]))⟩
  exact K.keep_set hgr i hx (fun g' h => (Option.some.inj h).symm) (fun g' h => .inl h)
/-- fewer things: more blocks that are only read -/
theorem Env.keep_sub (_ : Env w W T) (h : ∀ x ∈ T', x ∈ T) : Keep w F W T W T' := ⟨Nat.le_refl _, fun _ hb => ⟨hb.1, hb.2.1, fun x hx => hb.2.2 x (h x hx)⟩, fun _ _ => rfl⟩
theorem Env.keep_put1 (K : Env w W T) (i : Nat) {g : Nat} {cs cs' : Array Value} {t : TypeId} (hx : T[i]? = some (.box g (.cells cs t (0, 0)))) (o : Nat) (v : Value) (hc : cs.setIfInBounds o v = cs') {T' : List Thing} (hT : T' = T.set i (.box g (.cells cs' t (0, 0)))) : Keep w F W T (W.setCell ⟨g, o, none⟩ v) T' := by
  rw [setCell_eq_setRow W g o cs t (0, 0) v (K.get i hx), hc]
  exact K.keep_put i hx hT
theorem Env.free (K : Env w W T) (i : Nat) {g : Nat} {cs : Array Value} {t : TypeId} (hx : T[i]? = some (.box g (.cells cs t (0, 0)))) (o : Nat) : W.frozen? ⟨g, o, none⟩ = false := by simp [World.frozen?, K.get i hx]
theorem Env.keep_drew (K : Env w W T) : Keep w F W T W.drew T := K.keep_on (Below.refl _ _).drew
/-- blocks of a call's result are blocks that the walk only reads -/
theorem Env.fresh (K : Env w W T) (h : Below W.heap.size W W') : ∀ b, b < W'.heap.size → (Quiet w F W T b ∨ W.heap.size ≤ b) → Quiet w F W' T b := by
  rintro b hb (h1 | h1)
  · exact (K.keep_on h).rest b h1
  · exact ⟨.inr (Nat.le_trans K.hb.size h1), hb, fun x hx e => by have := ((K.hold x hx).lt e).2; omega⟩
theorem Quiet.start {b : Nat} (hb : F b) (hl : b < w.heap.size) : Quiet w F w [] b := ⟨.inl hb, hl, fun _ h => absurd h (by simp)⟩
variable {α : Type} {R : Row α}
theorem Env.list (hR : R.Ok) (K : Env w W T) (i : Nat) {g n c : Nat} {L : List α} (h : T[i]? = some (lst R (slv g n c) n L)) : TList R W (fun b => w.heap.size ≤ b) (some ⟨g, 0, none⟩) n c L := by
  obtain ⟨a', c', e, hl⟩ := owns_list (F := fun b => w.heap.size ≤ b) hR (K.own i h) (fun b hb => ((K.own i h).lt b hb).1)
  cases e
  exact hl
theorem grown_none (w : World) (r : Option Nat) : w.grownBy w r := e_grown w r
/-- the append of a list that lies in memory to one of the call's own -/
theorem Env.app_listW (hR : R.Ok) {o : Oper} {a : Act} {K' : Act → World → Prop} {Q : Exit → Act → World → Prop} (s x : Operand)
    (ho : o.op = .call { callee := .builtin .append, args := #[s, x], argTypes := #[R.st, R.st] }) (K : Env w W T) (i : Nat) {g m0 c0 : Nat} {M : List α} (hi : T[i]? = some (lst R (slv g m0 c0) m0 M))
    (hs : a.eval s = slv g m0 c0) {F : Nat → Prop} {sa : Option Addr} {m c : Nat} {L : List α} (hx : a.eval x = .slice sa m c) (hl : TList R W F sa m c L) (hm : m0 + m ≤ 1000000000000000) (hm2 : (m0 + m) * R.wide ≤ 140737488355328)
    (h : ∀ g' c' W', Env w W' (T.set i (lst R (slv g' (m0 + m) c') (m0 + m) (M ++ L))) → (∀ F, Keep w F W T W' (T.set i (lst R (slv g' (m0 + m) c') (m0 + m) (M ++ L)))) → K' (a.put o.dst (slv g' (m0 + m) c')) W') : o.wp Try.prog a W K' Q := by
  have hown := K.own i hi
  obtain ⟨i1, hi1, hy0, hy1, hy2⟩ := info_parts hR.info
  cases sa with
  | none =>
    obtain ⟨rfl, rfl, rfl⟩ := hl.none
    have hrun := run_append_owned_none (P := Try.prog) (w := W) w.heap.size R.st o.type R.et i1 R.sz hR.und hi1 _ m0 (R.all M) hown
    unfold Oper.wp
    simp [execOp, ho, resolve, invoke, builtin, hs, hx, hrun, Result.andThen]
    have h9 := h g c0 W (by
      rw [List.append_nil, Nat.add_zero]
      exact K.set (grown_none W none) i hi (fun g' e => by cases e) hown (fun g' e => .inl e)) (fun F => by
      rw [List.append_nil, Nat.add_zero]
      exact K.keep_set (grown_none W none) i hi (fun g' e => by cases e) (fun g' e => .inl e))
    rw [Nat.add_zero] at h9
    exact h9
  | some ad =>
    obtain ⟨v', w', hr, h2, h3, h4, h5⟩ := run_append_own_at (P := Try.prog) W w.heap.size R.st o.type R.et i1 _ R.sz R.wide hR.und hi1 hy0 hy1 hy2 hR.zs hR.pos _ m0 (R.all M) hown ad m c (R.all L) (by rw [all_length hR, hl.length]) hl.news (all_flat hR L) (by unfold maxLen; omega) hm2 K.hb.size
    have hv : ∃ g' c', v' = slv g' (m0 + m) c' := by
      rcases h2.2 with ⟨e, _⟩ | ⟨g', c', _, e, _⟩
      · exact absurd (h4.1 e).1 (by simp)
      · exact ⟨g', c', e⟩
    obtain ⟨g', c', rfl⟩ := hv
    rw [← all_append] at h2
    unfold Oper.wp execOp
    simp only [ho, resolve, invoke, builtin, Sem.run_bind, Sem.run_pure, Result.andThen_ok, List.map_toArray, List.map_cons, List.map_nil, hs, hx, hr]
    have hn : ∀ g9, (lst R (slv g' (m0 + m) c') (m0 + m) (M ++ L)).has g9 → (lst R (slv g m0 c0) m0 M).has g9 ∨ W.heap.size ≤ g9 := fun g9 e => by
      rcases h5 with h5 | h5
      · exact .inl (h5.symm.trans e)
      · right
        have := h5.symm.trans e
        have := Option.some.inj this
        omega
    exact h g' c' w' (K.set h3 i hi (fun g9 e => e) h2 hn) (fun F => K.keep_set h3 i hi (fun g9 e => e) hn)
theorem Env.app_list (hR : R.Ok) {o : Oper} {a : Act} {K' : Act → World → Prop} {Q : Exit → Act → World → Prop} (s x : Operand)
    (ho : o.op = .call { callee := .builtin .append, args := #[s, x], argTypes := #[R.st, R.st] }) (K : Env w W T) (i : Nat) {g m0 c0 : Nat} {M : List α} (hi : T[i]? = some (lst R (slv g m0 c0) m0 M))
    (hs : a.eval s = slv g m0 c0) {F : Nat → Prop} {sa : Option Addr} {m c : Nat} {L : List α} (hx : a.eval x = .slice sa m c) (hl : TList R W F sa m c L) (hm : m0 + m ≤ 1000000)
    (h : ∀ g' c' W', Env w W' (T.set i (lst R (slv g' (m0 + m) c') (m0 + m) (M ++ L))) → (∀ F, Keep w F W T W' (T.set i (lst R (slv g' (m0 + m) c') (m0 + m) (M ++ L)))) → K' (a.put o.dst (slv g' (m0 + m) c')) W') : o.wp Try.prog a W K' Q :=
  K.app_listW hR s x ho i hi hs hx hl (by omega) (Nat.le_trans (Nat.mul_le_mul hm hR.small) (by decide)) h
/-- the append of one element that lies in a box -/
theorem Env.app_one (hR : R.Ok) {o : Oper} {a : Act} {K' : Act → World → Prop} {Q : Exit → Act → World → Prop} (s x : Operand)
    (ho : o.op = .call { callee := .builtin .append, args := #[s, x], argTypes := #[R.st, R.st] }) (K : Env w W T) (i j : Nat) {v : Value} {m0 : Nat} {M : List α} (hi : T[i]? = some (lst R v m0 M))
    (hs : a.eval s = v) {g : Nat} {e : α} {fr : Nat × Nat} (hj : T[j]? = some (.box g (.cells (R.c e).toArray R.et fr))) (hx : a.eval x = slv g 1 1) (hm : m0 ≤ 900000)
    (h : ∀ g' c' W', Env w W' (T.set i (lst R (slv g' (m0 + 1) c') (m0 + 1) (M ++ [e]))) → (∀ F, Keep w F W T W' (T.set i (lst R (slv g' (m0 + 1) c') (m0 + 1) (M ++ [e])))) → K' (a.put o.dst (slv g' (m0 + 1) c')) W') : o.wp Try.prog a W K' Q :=
  wp_append_one hR s x ho w.heap.size v m0 M hs (K.own i hi) g e hx (K.get j hj) hm K.hb.size fun g' c' w' h1 h2 h3 => by
    have hn : ∀ g9, (lst R (slv g' (m0 + 1) c') (m0 + 1) (M ++ [e])).has g9 → (lst R v m0 M).has g9 ∨ W.heap.size ≤ g9 := fun g9 e9 => by
      obtain rfl := Option.some.inj e9
      rcases h3 with h3 | h3
      · exact .inl h3
      · exact .inr (by show W.heap.size ≤ g'; omega)
    exact h g' c' w' (K.set h2 i hi (fun g9 e9 => e9) h1 hn) (fun F => K.keep_set h2 i hi (fun g9 e9 => e9) hn)
/-- the same at a list of operations -/
theorem Env.apps_list (hR : R.Ok) {ops : Array Oper} {rest : List Oper} {o : Oper} {a : Act} {Q : Exit → Act → World → Prop} (hgd : o.guard = none) (s x : Operand)
    (ho : o.op = .call { callee := .builtin .append, args := #[s, x], argTypes := #[R.st, R.st] }) (K : Env w W T) (i : Nat) {g m0 c0 : Nat} {M : List α} (hi : T[i]? = some (lst R (slv g m0 c0) m0 M))
    (hs : a.eval s = slv g m0 c0) {F : Nat → Prop} {sa : Option Addr} {m c : Nat} {L : List α} (hx : a.eval x = .slice sa m c) (hl : TList R W F sa m c L) (hm : m0 + m ≤ 1000000)
    (h : ∀ g' c' W', Env w W' (T.set i (lst R (slv g' (m0 + m) c') (m0 + m) (M ++ L))) → (∀ F, Keep w F W T W' (T.set i (lst R (slv g' (m0 + m) c') (m0 + m) (M ++ L)))) → wpList Try.prog ops Q rest (a.put o.dst (slv g' (m0 + m) c')) W') : wpList Try.prog ops Q (o :: rest) a W :=
  wpList_plain hgd fun _ hK => K.app_list hR s x ho i hi hs hx hl hm fun g' c' W' h1 k1 => hK _ _ (h g' c' W' h1 k1)
theorem Env.apps_listW (hR : R.Ok) {ops : Array Oper} {rest : List Oper} {o : Oper} {a : Act} {Q : Exit → Act → World → Prop} (hgd : o.guard = none) (s x : Operand)
    (ho : o.op = .call { callee := .builtin .append, args := #[s, x], argTypes := #[R.st, R.st] }) (K : Env w W T) (i : Nat) {g m0 c0 : Nat} {M : List α} (hi : T[i]? = some (lst R (slv g m0 c0) m0 M))
    (hs : a.eval s = slv g m0 c0) {F : Nat → Prop} {sa : Option Addr} {m c : Nat} {L : List α} (hx : a.eval x = .slice sa m c) (hl : TList R W F sa m c L) (hm : m0 + m ≤ 1000000000000000) (hm2 : (m0 + m) * R.wide ≤ 140737488355328)
    (h : ∀ g' c' W', Env w W' (T.set i (lst R (slv g' (m0 + m) c') (m0 + m) (M ++ L))) → (∀ F, Keep w F W T W' (T.set i (lst R (slv g' (m0 + m) c') (m0 + m) (M ++ L)))) → wpList Try.prog ops Q rest (a.put o.dst (slv g' (m0 + m) c')) W') : wpList Try.prog ops Q (o :: rest) a W :=
  wpList_plain hgd fun _ hK => K.app_listW hR s x ho i hi hs hx hl hm hm2 fun g' c' W' h1 k1 => hK _ _ (h g' c' W' h1 k1)
theorem Env.apps_one (hR : R.Ok) {ops : Array Oper} {rest : List Oper} {o : Oper} {a : Act} {Q : Exit → Act → World → Prop} (hgd : o.guard = none) (s x : Operand)
    (ho : o.op = .call { callee := .builtin .append, args := #[s, x], argTypes := #[R.st, R.st] }) (K : Env w W T) (i j : Nat) {v : Value} {m0 : Nat} {M : List α} (hi : T[i]? = some (lst R v m0 M))
    (hs : a.eval s = v) {g : Nat} {e : α} {fr : Nat × Nat} (hj : T[j]? = some (.box g (.cells (R.c e).toArray R.et fr))) (hx : a.eval x = slv g 1 1) (hm : m0 ≤ 900000)
    (h : ∀ g' c' W', Env w W' (T.set i (lst R (slv g' (m0 + 1) c') (m0 + 1) (M ++ [e]))) → (∀ F, Keep w F W T W' (T.set i (lst R (slv g' (m0 + 1) c') (m0 + 1) (M ++ [e])))) → wpList Try.prog ops Q rest (a.put o.dst (slv g' (m0 + 1) c')) W') : wpList Try.prog ops Q (o :: rest) a W :=
  wpList_plain hgd fun _ hK => K.app_one hR s x ho i j hi hs hj hx hm fun g' c' W' h1 k1 => hK _ _ (h g' c' W' h1 k1)
theorem run_store_at {P : Program} {w : World} {g o : Nat} {ty t : TypeId} {v : Value} {cs : Array Value} (hg : w.heap[g]? = some (.cells cs t (0, 0))) (ho : o < cs.size) (hi : (P.info? ty).map (·.size) = some 1) (hv : v.cells = #[v]) (hv1 : v.oneCell' = true) :
    (storeVar ty ⟨g, o, none⟩ v).run P w = .ok () (w.setRow g (cs.setIfInBounds o v)) := by
  cases hq : P.info? ty with
  | none => simp [hq] at hi
  | some i =>
    have hs : i.size = 1 := by simpa [hq] using hi
    have hst := run_store P w ⟨g, o, none⟩ v .plain hv1
    rw [cell_of_row w g o _ _ _ hg, show w.frozen? ⟨g, o, none⟩ = false by simp [World.frozen?, hg], Array.getElem?_eq_getElem ho] at hst
    simp only [Bool.false_eq_true, if_false] at hst
    have ha : (⟨g, o, none⟩ : Addr).add 0 = ⟨g, o, none⟩ := by rw [Addr.add_lit, Nat.add_zero]
    rw [setCell_eq_setRow w g o cs t (0, 0) v hg] at hst
    simp [storeVar, sizeOf, typeInfo, hq, hv, hs, storeCells, ha, hst]
/-- one cell of a box is stored -/
theorem Env.store1 {o : Oper} {a : Act} {K' : Act → World → Prop} {Q : Exit → Act → World → Prop} (K : Env w W T) (i : Nat) {g : Nat} {cs : Array Value} {t : TypeId} (hi : T[i]? = some (.box g (.cells cs t (0, 0)))) (ty : TypeId) (x y : Operand) (hop : o.op = .store ty x y)
    (k : Nat) (v : Value) (hx : a.eval x = .pointer (some ⟨g, k, none⟩)) (hy : a.eval y = v) (ho : k < cs.size) (hinf : (Try.prog.info? ty).map (·.size) = some 1) (hv : v.cells = #[v]) (hv1 : v.oneCell' = true)
    (h : ∀ W', Env w W' (T.set i (.box g (.cells (cs.setIfInBounds k v) t (0, 0)))) → (∀ F, Keep w F W T W' (T.set i (.box g (.cells (cs.setIfInBounds k v) t (0, 0))))) → K' (a.put o.dst undef) W') : o.wp Try.prog a W K' Q := by
  unfold Oper.wp execOp
  simp only [hop, hx, hy, Instr.storeAt, Instr.sureAddr, Sem.run_bind, Sem.run_pure, Result.andThen_ok, run_store_at (v := v) (K.get i hi) ho hinf hv hv1]
  exact h _ (K.put i hi rfl) (fun _ => K.keep_put i hi rfl)
theorem Env.stores1 {ops : Array Oper} {rest : List Oper} {o : Oper} {a : Act} {Q : Exit → Act → World → Prop} (hgd : o.guard = none) (K : Env w W T) (i : Nat) {g : Nat} {cs : Array Value} {t : TypeId} (hi : T[i]? = some (.box g (.cells cs t (0, 0)))) (ty : TypeId) (x y : Operand) (hop : o.op = .store ty x y)
    (k : Nat) (v : Value) (hx : a.eval x = .pointer (some ⟨g, k, none⟩)) (hy : a.eval y = v) (ho : k < cs.size) (hinf : (Try.prog.info? ty).map (·.size) = some 1) (hv : v.cells = #[v]) (hv1 : v.oneCell' = true)
    (h : ∀ W', Env w W' (T.set i (.box g (.cells (cs.setIfInBounds k v) t (0, 0)))) → (∀ F, Keep w F W T W' (T.set i (.box g (.cells (cs.setIfInBounds k v) t (0, 0))))) → wpList Try.prog ops Q rest (a.put o.dst undef) W') : wpList Try.prog ops Q (o :: rest) a W :=
  wpList_plain hgd fun _ hK => K.store1 i hi ty x y hop k v hx hy ho hinf hv hv1 fun W' h1 k1 => hK _ _ (h W' h1 k1)
/-- a whole row is stored into a box -/
theorem Env.storeRow {o : Oper} {a : Act} {K' : Act → World → Prop} {Q : Exit → Act → World → Prop} (K : Env w W T) (i : Nat) {g : Nat} {cs : Array Value} {t : TypeId} (hi : T[i]? = some (.box g (.cells cs t (0, 0)))) (ty : TypeId) (x y : Operand) (hop : o.op = .store ty x y)
    (cs' : Array Value) (hx : a.eval x = .pointer (some ⟨g, 0, none⟩)) (hy : a.eval y = .agg cs') (hinf : (Try.prog.info? ty).map (·.size) = some cs'.size) (hold : cs.size = cs'.size) (h1 : cs'.all (·.oneCell') = true)
    (h : ∀ W', Env w W' (T.set i (.box g (.cells cs' t (0, 0)))) → (∀ F, Keep w F W T W' (T.set i (.box g (.cells cs' t (0, 0))))) → K' (a.put o.dst undef) W') : o.wp Try.prog a W K' Q :=
  wp_store_row ty x y hop g cs' hx hy t cs (K.get i hi) hinf hold h1 (h _ (K.put i hi rfl) (fun _ => K.keep_put i hi rfl))
/-- an element of one cell is stored into a list of the walk's own -/
theorem Env.set1 (hR : R.Ok) (hs : R.sz = 1) (K : Env w W T) (i : Nat) {g n c : Nat} {L : List α} (h : T[i]? = some (lst R (slv g n c) n L)) {k : Nat} (hk : k < n) (e : α) {u : Value} (hu : R.c e = [u]) :
    Env w (W.setCell ⟨g, k, none⟩ u) (T.set i (lst R (slv g n c) n (L.set k e))) ∧ ∀ F, Keep w F W T (W.setCell ⟨g, k, none⟩ u) (T.set i (lst R (slv g n c) n (L.set k e))) := by
  have hown := K.own i h
  have h1 := own_set hR hown hk e
  rw [hs, Nat.mul_one, hu] at h1
  have h2 : (W.setCell ⟨g, k, none⟩ u).ownsRow w.heap.size R.et R.sz (slv g n c) n (R.all (L.set k e)) := by rw [hs]; exact h1
  obtain ⟨cur, hg⟩ : ∃ cur, W.heap[g]? = some (.cells cur R.et (0, 0)) := by
    rcases hown.2 with ⟨h9, _⟩ | ⟨g', cap, cur, hv, _, hg, _⟩
    · cases h9
    · cases hv
      exact ⟨cur, hg⟩
  have hgr : W.grownBy (W.setCell ⟨g, k, none⟩ u) (some g) := by
    rw [setCell_eq_setRow W g k cur _ _ u hg]
    exact ⟨rfl, rfl, rfl, by simp, fun j _ hj => setRow_other W g j _ (fun e => hj (by rw [e]))⟩
  exact ⟨K.set hgr i h (fun g' e => e) h2 (fun g' e => .inl e), fun _ => K.keep_set hgr i h (fun g' e => e) (fun g' e => .inl e)⟩
theorem Env.own1 (hR : R.Ok) (hs : R.sz = 1) (K : Env w W T) (i : Nat) {g n c : Nat} {L : List α} (h : T[i]? = some (lst R (slv g n c) n L)) {k : Nat} {e : α} (hk : L[k]? = some e) {u : Value} (hu : R.c e = [u]) : W.cell? ⟨g, k, none⟩ = some u ∧ W.frozen? ⟨g, k, none⟩ = false := by
  have h1 := own_cell hR (K.own i h) (j := k) (k := 0) (e := e) (u := u) hk (by rw [hu]; rfl)
  rwa [hs, Nat.mul_one, Nat.add_zero] at h1
/-- a list of n elements, all alike, in a new block -/
theorem Env.made (K : Env w W T) (e : α) (n : Nat) (hn : n ≤ maxLen) {cs : Array Value} (hc : cs.toList = R.all (List.replicate n e)) (hz : cs.size = n * R.sz) : Env w (W.alloc (.cells cs R.et)) (lst R (slv W.heap.size n n) n (List.replicate n e) :: T) :=
  K.cons ((Below.refl _ _).alloc (Nat.le_refl _) _) (show Thing.holds w.heap.size (W.alloc (.cells cs R.et)) (lst R (slv W.heap.size n n) n (List.replicate n e)) from by
    have := World.ownsRow_lit (base := w.heap.size) (e := R.et) (size := R.sz) W cs n K.hb.size hn hz
    rw [hc] at this
    exact this) (fun g hg => by obtain rfl := Option.some.inj hg; exact Nat.le_refl _)
theorem Env.keep_made (_ : Env w W T) (e : α) (n : Nat) (cs : Array Value) : Keep w F W T (W.alloc (.cells cs R.et)) (lst R (slv W.heap.size n n) n (List.replicate n e) :: T) := by
  refine ⟨by simp, fun b hb => ⟨hb.1, by have := hb.2.1; simp; omega, fun x hx => ?_⟩, fun b hb => heap_alloc_old W _ hb.2.1⟩
  rcases List.mem_cons.1 hx with rfl | hx
  · intro e
    have : b = W.heap.size := (Option.some.inj e).symm
    have := hb.2.1
    omega
  · exact hb.2.2 x hx
theorem made_all (hs : R.sz = 1) (e : α) {u : Value} (hu : R.c e = [u]) (n : Nat) : (madeCells #[u] n).toList = R.all (List.replicate n e) ∧ (madeCells #[u] n).size = n * R.sz := by
  refine ⟨?_, by rw [hs, Nat.mul_one]; simp [madeCells]⟩
  have h1 : (madeCells #[u] n).toList = List.replicate n u := by
    apply List.ext_getElem?
    intro i
    by_cases hi : i < n
    · simp [madeCells, hi, Nat.mod_one]
    · simp [madeCells, hi, Nat.mod_one]
  rw [h1]
  induction n with
  | zero => rfl
  | succ n ih =>
    rw [List.replicate_succ, List.replicate_succ, all_cons, hu, ← ih (by
      apply List.ext_getElem?
      intro i
      by_cases hi : i < n
      · simp [madeCells, hi, Nat.mod_one]
      · simp [madeCells, hi])]
    rfl
/-- an element of one cell is stored into a list of the walk's own, at the operation -/
theorem Env.store_own (hR : R.Ok) (hs : R.sz = 1) {o : Oper} {a : Act} {K' : Act → World → Prop} {Q : Exit → Act → World → Prop} (K : Env w W T) (i : Nat) {g n c : Nat} {L : List α} (h : T[i]? = some (lst R (slv g n c) n L)) (ty : TypeId) (x y : Operand) (hop : o.op = .store ty x y)
    {k : Nat} (hk : k < n) (e : α) {u : Value} (hu : R.c e = [u]) (hx : a.eval x = .pointer (some ⟨g, k, none⟩)) (hy : a.eval y = u) (hinf : (Try.prog.info? ty).map (·.size) = some 1) (hv : u.cells = #[u])
    (hh : ∀ W', Env w W' (T.set i (lst R (slv g n c) n (L.set k e))) → (∀ F, Keep w F W T W' (T.set i (lst R (slv g n c) n (L.set k e)))) → K' (a.put o.dst undef) W') : o.wp Try.prog a W K' Q := by
  have hown := K.own i h
  obtain ⟨cur, hg, hsz⟩ : ∃ cur, W.heap[g]? = some (.cells cur R.et (0, 0)) ∧ k < cur.size := by
    rcases hown.2 with ⟨h9, _⟩ | ⟨g', cap, cur, hv, _, hg, h1, _, h3, _⟩
    · cases h9
    · cases hv
      refine ⟨cur, hg, ?_⟩
      rw [h3, hs, Nat.mul_one]
      omega
  have hv1 : u.oneCell' = true := hR.flat e u (by rw [hu]; exact List.mem_singleton.2 rfl)
  have hset := K.set1 hR hs i h hk e hu
  rw [setCell_eq_setRow W g k cur _ _ u hg] at hset
  unfold Oper.wp execOp
  simp only [hop, hx, hy, Instr.storeAt, Instr.sureAddr, Sem.run_bind, Sem.run_pure, Result.andThen_ok, run_store_at (v := u) hg hsz hinf hv hv1]
  exact hh _ hset.1 hset.2
/-- a list of the walk's own that it is done with -/
theorem Env.settle (hR : R.Ok) (K : Env w W T) (i : Nat) {g n c : Nat} {L : List α} (h : T[i]? = some (lst R (slv g n c) n L)) : TList R W (Quiet w F W (T.eraseIdx i)) (some ⟨g, 0, none⟩) n c L := by
  rcases K.list hR i h with ⟨_, _, _, _⟩ | ⟨x, hx, h2, h3, h4, h5, h6, h7⟩
  · have h0 := K.list hR i h
    rcases h0 with ⟨_, h1, h2, h3⟩ | h0
    · have hown := (K.own i h).lt g rfl
      subst h1 h2 h3
      refine .inr ⟨_, rfl, Nat.le_refl _, Nat.zero_le _, rfl, hown.2, ⟨.inr hown.1, hown.2, ?_⟩, fun j u hu => by simp [Row.all] at hu⟩
      intro x hx e
      obtain ⟨j, hj, hji⟩ := List.mem_eraseIdx_iff_getElem?.1 hx
      exact hj (K.nd j i x _ g hji h e rfl)
    · obtain ⟨x, hx, h2, h3, h4, h5, h6, h7⟩ := h0
      cases hx
      refine .inr ⟨_, rfl, h2, h3, h4, h5, ⟨.inr h6, h5, ?_⟩, h7⟩
      intro x hx e
      obtain ⟨j, hj, hji⟩ := List.mem_eraseIdx_iff_getElem?.1 hx
      exact hj (K.nd j i x _ g hji h e rfl)
  · cases hx
    refine .inr ⟨_, rfl, h2, h3, h4, h5, ⟨.inr h6, h5, ?_⟩, h7⟩
    intro x hx e
    obtain ⟨j, hj, hji⟩ := List.mem_eraseIdx_iff_getElem?.1 hx
    exact hj (K.nd j i x _ g hji h e rfl)
end
end Go.Proofs.Ytkamadeekkccgaa.Env
namespace Go.Proofs.Ytkamadeekkccgaa.Rws
open Env Ents Go.RowKit
section
variable {α : Type} {R : Row α} {w W W' : World} {F : Nat → Prop} {T T' : List Thing} {a : Option Addr} {n c : Nat} {L : List α}
theorem TList.keep (h : TList R W (Quiet w F W T) a n c L) (k : Keep w F W T W' T') : TList R W' (Quiet w F W' T') a n c L := (h.on k.on').mono fun b _ hb => k.rest b hb
theorem TList.fewer (h : TList R W (Quiet w F W T) a n c L) (hs : ∀ y ∈ T', y ∈ T) : TList R W (Quiet w F W T') a n c L := h.mono fun _ _ hb => ⟨hb.1, hb.2.1, fun x hx => hb.2.2 x (hs x hx)⟩
theorem TList.rest0 (h : TList R w F a n c L) : TList R w (Quiet w F w []) a n c L := h.mono fun _ hl hb => Quiet.start hb hl
theorem TList.result (K : Env w W T) (hb : Below W.heap.size W W') (h : TList R W' (fun b => Quiet w F W T b ∨ W.heap.size ≤ b) a n c L) : TList R W' (Quiet w F W' T) a n c L := h.mono fun b hl hb' => K.fresh hb b hl hb'
theorem TList.leave (h : TList R W (Quiet w F W T) a n c L) : TList R W (fun b => F b ∨ w.heap.size ≤ b) a n c L := h.mono fun _ _ hb => hb.1
end
end Go.Proofs.Ytkamadeekkccgaa.Rws

/- Lists of events in memory; the walks of the document's invoked and returned. -/
namespace Go.Proofs.Ytkamadeekkccgaa.Ents
open Go.RowKit Plan HisMath Rws
def VR : Row Ev := ⟨36, 22, 8, 80, .agg #[.bool false, .int .i64 0, .int .i64 0, .int .i64 0, .int .i64 0, .string ⟨#[]⟩, .int .i64 0, .string ⟨#[]⟩], fun x => [.bool x.ret, .int .i64 x.queue, .int .i64 x.serial, .int .i64 x.kind, .int .i64 x.block, .string x.data, .int .i64 x.err, .string x.res]⟩
theorem vrOk : VR.Ok := ⟨fun _ => rfl, fun e u hu => by simp only [VR, List.mem_cons, List.not_mem_nil, or_false] at hu; rcases hu with rfl | rfl | rfl | rfl | rfl | rfl | rfl | rfl <;> rfl, by decide, by kernel_rfl, rfl, Try.underlying22, by decide⟩
abbrev VList := TList VR
abbrev evV (x : Ev) : Value := .agg #[.bool x.ret, .int .i64 x.queue, .int .i64 x.serial, .int .i64 x.kind, .int .i64 x.block, .string x.data, .int .i64 x.err, .string x.res]
theorem ev_info : (Try.prog.info? 36).map (·.size) = some 8 := by kernel_rfl
abbrev EvAt (w : World) (x : Addr) (i : Nat) (e : Ev) : Prop := w.cell? (x.add (i * 8)) = some (.bool e.ret) ∧ w.cell? ⟨(x.add (i * 8)).block, (x.add (i * 8)).off + 1, none⟩ = some (.int .i64 e.queue) ∧ w.cell? ⟨(x.add (i * 8)).block, (x.add (i * 8)).off + 2, none⟩ = some (.int .i64 e.serial) ∧ w.cell? ⟨(x.add (i * 8)).block, (x.add (i * 8)).off + 3, none⟩ = some (.int .i64 e.kind) ∧ w.cell? ⟨(x.add (i * 8)).block, (x.add (i * 8)).off + 4, none⟩ = some (.int .i64 e.block) ∧ w.cell? ⟨(x.add (i * 8)).block, (x.add (i * 8)).off + 5, none⟩ = some (.string e.data) ∧ w.cell? ⟨(x.add (i * 8)).block, (x.add (i * 8)).off + 6, none⟩ = some (.int .i64 e.err) ∧ w.cell? ⟨(x.add (i * 8)).block, (x.add (i * 8)).off + 7, none⟩ = some (.string e.res)
theorem ev_at {w : World} {F : Nat → Prop} {a : Option Addr} {n c : Nat} {L : List Ev} (h : VList w F a n c L) (i : Nat) (hi : i < n) : ∃ x r, a = some x ∧ L[i]? = some r ∧ EvAt w x i r := by
  obtain ⟨x, r, hx, hr, hc⟩ := h.at' vrOk i hi
  have e := ent_add_off x (i * 8)
  exact ⟨x, r, hx, hr, hc 0 _ rfl, by rw [← e 0]; exact hc 1 _ rfl, by rw [← e 1]; exact hc 2 _ rfl, by rw [← e 2]; exact hc 3 _ rfl, by rw [← e 3]; exact hc 4 _ rfl, by rw [← e 4]; exact hc 5 _ rfl, by rw [← e 5]; exact hc 6 _ rfl, by rw [← e 6]; exact hc 7 _ rfl⟩
theorem r_i {a b : Int} (h : a = b) : Ending.returned (.int .i64 a) = .returned (.int .i64 b) := by rw [h]
set_option maxHeartbeats 8000000 in
set_option maxRecDepth 20000 in
theorem refInvoked_any (F : Nat → Prop) (L : List Ev) (a : Option Addr) (n c : Nat) (s : Int) (w : World) (hl : VList w F a n c L) :
    Calls Try.prog 34 #[.slice a n c, .int .i64 s] w fun r w' => r = .returned (.int .i64 (invI L s)) ∧ Below w.heap.size w w' := by
  have hlen := hl.length
  have HAT := Lib.hid (fun W (h : Below w.heap.size w W) i (hi : i < n) => ev_at (hl.same h) i hi)
  have hcp := hl.cap
  unfold maxLen at hcp
  have hb := Below.refl w.heap.size w
  have HYES := Lib.hid (fun (j : Nat) (e : Ev) (h1 : L[j]? = some e) (h2 : invP s e = true) (h3 : ∀ i x, i < j → L[i]? = some x → invP s x = false) => seek_at h1 h2 h3)
  have HNO := Lib.hid (fun (h : ∀ i x, i < n → L[i]? = some x → invP s x = false) => seek_none (l := L) (by rw [hlen]; exact h))
  clear hl hlen
  go_enter Try.func34, Try.ntmps34
  go_wp2_with fail
  go_loopw [5] (fun x wr => ∃ j : Nat, x = .int .i64 (j : Int) ∧ j ≤ n ∧ RowKit.Hid (∀ i x, i < j → L[i]? = some x → invP s x = false) ∧ Below w.heap.size w wr) (fun x _ => n - (intOf x).toNat)
  case atStart => exact ⟨0, rfl, by omega, Lib.hid (fun i _ hi => absurd hi (Nat.not_lt_zero _)), hb⟩
  case round =>
    clear hb
    obtain ⟨j, rfl, hj, hall, hb⟩ := hrel
    by_cases hlt : j < n
    · obtain ⟨x, e, rfl, he, c0, c1, c2, c3, c4, c5, c6, c7⟩ := HAT.out wr hb j hlt
      have hjI : (j : Int) < (n : Int) := by omega
      have HE := Lib.hid he
      obtain ⟨er, eq, es, ek, eb, ed, ee, ex⟩ := e
      simp only at c0 c2
      clear c1 c3 c4 c5 c6 c7 he
      have HN : (invP s ⟨er, eq, es, ek, eb, ed, ee, ex⟩ = false) → RowKit.Hid (∀ i x, i < j + 1 → L[i]? = some x → invP s x = false) := fun hf => Lib.hid (fun i x hi hx => by
        rcases Nat.lt_or_ge i j with h9 | h9
        · exact hall.out i x h9 hx
        · obtain rfl : i = j := by omega
          rw [HE.out] at hx
          cases hx
          exact hf)
      by_cases hr : er = true
      · subst hr
        replace HN := HN (by simp [invP])
        go_wp2_with fail
        go_roundw
        case rel => exact ⟨j + 1, by go_num, by omega, HN, hb⟩
        case measure => simp [intOf]; omega
      · obtain rfl : er = false := by cases er <;> simp_all
        clear hr
        by_cases hs : es = s
        · have HR := Lib.hid (HYES.out j _ HE.out (by simp [invP, hs]) hall.out)
          clear HN
          subst hs
          go_wp2_with fail
          go_ret
          exact ⟨r_i HR.out.symm, hb⟩
        · replace HN := HN (by simp [invP, hs])
          go_wp2_with fail
          go_roundw
          case rel => exact ⟨j + 1, by go_num, by omega, HN, hb⟩
          case measure => simp [intOf]; omega
    · obtain rfl : j = n := by omega
      have HR := Lib.hid (HNO.out hall.out)
      go_wp2_with fail
      go_ret
      exact ⟨r_i HR.out.symm, hb⟩
set_option maxHeartbeats 8000000 in
set_option maxRecDepth 20000 in
theorem refReturned_any (F : Nat → Prop) (L : List Ev) (a : Option Addr) (n c : Nat) (s : Int) (w : World) (hl : VList w F a n c L) :
    Calls Try.prog 33 #[.slice a n c, .int .i64 s] w fun r w' => r = .returned (.int .i64 (retI L s)) ∧ Below w.heap.size w w' := by
  have hlen := hl.length
  have HAT := Lib.hid (fun W (h : Below w.heap.size w W) i (hi : i < n) => ev_at (hl.same h) i hi)
  have hcp := hl.cap
  unfold maxLen at hcp
  have hb := Below.refl w.heap.size w
  have HYES := Lib.hid (fun (j : Nat) (e : Ev) (h1 : L[j]? = some e) (h2 : retP s e = true) (h3 : ∀ i x, i < j → L[i]? = some x → retP s x = false) => seek_at h1 h2 h3)
  have HNO := Lib.hid (fun (h : ∀ i x, i < n → L[i]? = some x → retP s x = false) => seek_none (l := L) (by rw [hlen]; exact h))
  clear hl hlen
  go_enter Try.func33, Try.ntmps33
  go_wp2_with fail
  go_loopw [5] (fun x wr => ∃ j : Nat, x = .int .i64 (j : Int) ∧ j ≤ n ∧ RowKit.Hid (∀ i x, i < j → L[i]? = some x → retP s x = false) ∧ Below w.heap.size w wr) (fun x _ => n - (intOf x).toNat)
  case atStart => exact ⟨0, rfl, by omega, Lib.hid (fun i _ hi => absurd hi (Nat.not_lt_zero _)), hb⟩
  case round =>
    clear hb
    obtain ⟨j, rfl, hj, hall, hb⟩ := hrel
    by_cases hlt : j < n
    · obtain ⟨x, e, rfl, he, c0, c1, c2, c3, c4, c5, c6, c7⟩ := HAT.out wr hb j hlt
      have hjI : (j : Int) < (n : Int) := by omega
      have HE := Lib.hid he
      obtain ⟨er, eq, es, ek, eb, ed, ee, ex⟩ := e
      simp only at c0 c2
      clear c1 c3 c4 c5 c6 c7 he
      have HN : (retP s ⟨er, eq, es, ek, eb, ed, ee, ex⟩ = false) → RowKit.Hid (∀ i x, i < j + 1 → L[i]? = some x → retP s x = false) := fun hf => Lib.hid (fun i x hi hx => by
        rcases Nat.lt_or_ge i j with h9 | h9
        · exact hall.out i x h9 hx
        · obtain rfl : i = j := by omega
          rw [HE.out] at hx
          cases hx
          exact hf)
      by_cases hr : er = false
      · subst hr
        replace HN := HN (by simp [retP])
        go_wp2_with fail
        go_roundw
        case rel => exact ⟨j + 1, by go_num, by omega, HN, hb⟩
        case measure => simp [intOf]; omega
      · obtain rfl : er = true := by cases er <;> simp_all
        clear hr
        by_cases hs : es = s
        · have HR := Lib.hid (HYES.out j _ HE.out (by simp [retP, hs]) hall.out)
          clear HN
          subst hs
          go_wp2_with fail
          go_ret
          exact ⟨r_i HR.out.symm, hb⟩
        · replace HN := HN (by simp [retP, hs])
          go_wp2_with fail
          go_roundw
          case rel => exact ⟨j + 1, by go_num, by omega, HN, hb⟩
          case measure => simp [intOf]; omega
    · obtain rfl : j = n := by omega
      have HR := Lib.hid (HNO.out hall.out)
      go_wp2_with fail
      go_ret
      exact ⟨r_i HR.out.symm, hb⟩
end Go.Proofs.Ytkamadeekkccgaa.Ents

/- Lists of numbers as rows of numbers: their fronts and backs, and the append of a list to one that the call owns. -/
namespace Go.Proofs.Ytkamadeekkccgaa.Ents
open Go.RowKit Plan EntMath Rws
def IR : Row Int := ⟨3, 25, 1, 8, .int .i64 0, fun z => [.int .i64 z]⟩
theorem irOk : IR.Ok := ⟨fun _ => rfl, fun e u hu => by simp only [IR, List.mem_cons, List.not_mem_nil, or_false] at hu; subst hu; rfl, by decide, by kernel_rfl, rfl, Try.underlying25, by decide⟩
theorem ir_all (L : List Int) : IR.all L = intC L := by
  induction L with
  | nil => rfl
  | cons x r ih =>
    rw [show IR.all (x :: r) = IR.c x ++ IR.all r from rfl, ih]
    rfl
section
variable {w : World} {F : Nat → Prop} {a : Option Addr} {n c : Nat} {L : List Int}
theorem IList.rows (h : IList w F a n c L) : TList IR w F a n c L := by
  rcases h with h | ⟨x, h1, h2, h3, h4, h5, h6, h7⟩
  · exact .inl h
  · exact .inr ⟨x, h1, h2, h3, h4, h5, h6, by rw [ir_all]; exact intC_cell h7⟩
theorem ilist_of (h : TList IR w F a n c L) : IList w F a n c L := by
  rcases h with h | ⟨x, h1, h2, h3, h4, h5, h6, h7⟩
  · exact .inl h
  · exact .inr ⟨x, h1, h2, h3, h4, h5, h6, fun j z hz => h7 j _ (by rw [ir_all]; exact intC_at hz)⟩
theorem IList.front (h : IList w F a n c L) (k : Nat) (hk : k ≤ n) : IList w F a k c (L.take k) := ilist_of (h.rows.front irOk k hk)
theorem IList.back {x : Addr} (h : IList w F (some x) n c L) (k : Nat) (hk : k ≤ n) (hn : 0 < n) : IList w F (some (x.add k)) (n - k) (c - k) (L.drop k) := by
  have h1 := h.rows.back irOk k hk hn
  rw [show k * IR.sz = k from Nat.mul_one k] at h1
  exact ilist_of h1
end
theorem append_ints {w : World} {F : Nat → Prop} {ops : Array Oper} {rest : List Oper} {o : Oper} {a : Act} {Q : Exit → Act → World → Prop} (hgd : o.guard = none) (s x : Operand)
    (ho : o.op = .call { callee := .builtin .append, args := #[s, x], argTypes := #[25, 25] })
    (base : Nat) (v : Value) (m0 : Nat) (M : List Int) (hs : a.eval s = v) (hown : w.ownsRow base 3 1 v m0 (intC M)) (sa : Option Addr) (m c : Nat) (L : List Int) (hx : a.eval x = .slice sa m c) (hl : IList w F sa m c L) (hm : m0 + m ≤ 1000000) (hbase : base ≤ w.heap.size)
    (h : ∀ v' w', w'.ownsRow base 3 1 v' (m0 + m) (intC (M ++ L)) → w.grownBy w' v.ownBlock → wpList Try.prog ops Q rest (a.put o.dst v') w') : wpList Try.prog ops Q (o :: rest) a w :=
  append_list (F := F) irOk hgd s x ho base v m0 M hs (by rw [ir_all]; exact hown) sa m c L hx hl.rows hm hbase (fun v' w' h1 h2 => h v' w' (by rw [ir_all] at h1; exact h1) h2)
end Go.Proofs.Ytkamadeekkccgaa.Ents
