/- Texts that belong together, part 12. -/
import Derived.Test.YtnmhnjjehglcfaaGreatPack11
import Derived.Maps.AppendAt

/- The walks of the document's New, Begin, End, Clear of counters. -/
namespace Go.Proofs.YtnmhnjjehglcfaaGreat.Ents
open Go.RowKit Plan EntMath CntMath
end Go.Proofs.YtnmhnjjehglcfaaGreat.Ents

/- The walks of the document's Clear, Change of counters. -/
namespace Go.Proofs.YtnmhnjjehglcfaaGreat.Ents
open Go.RowKit Plan EntMath CntMath
end Go.Proofs.YtnmhnjjehglcfaaGreat.Ents

/- The walk of the document's Change of counters. -/
namespace Go.Proofs.YtnmhnjjehglcfaaGreat.Ents
open Go.RowKit Plan EntMath CntMath
end Go.Proofs.YtnmhnjjehglcfaaGreat.Ents

/- Where a walk stands: its boxes and the lists that it owns, in blocks apart from each other, and that all below is as it was (Env); which blocks it only reads (Quiet), and that a step leaves them alone (Keep). One lemma for each kind of step. -/
namespace Go.Proofs.YtnmhnjjehglcfaaGreat.Env
open Go.RowKit Plan Ents Rws
theorem owns_mono {w : World} {base base' : Nat} {e : TypeId} {size : Nat} {v : Value} {n : Nat} {xs : List Value} (h : w.ownsRow base e size v n xs) (hb : base' ≤ base) : w.ownsRow base' e size v n xs :=
  ⟨h.1, h.2.imp id fun ⟨g, cap, cur, e1, h1, r⟩ => ⟨g, cap, cur, e1, Nat.le_trans hb h1, r⟩⟩
inductive Thing where
  | box (g : Nat) (o : Obj)
  | own (t : TypeId) (sz : Nat) (v : Value) (n : Nat) (xs : List Value)
  | any (hs : Nat → Prop) (Q : World → Prop)
/-- the blocks of a thing -/
def Thing.has : Thing → Nat → Prop
  | .box g _, b => b = g
  | .own _ _ v _ _, b => v.ownBlock = some b
  | .any hs _, b => hs b
def Thing.holds (B : Nat) (W : World) : Thing → Prop
  | .box g o => B ≤ g ∧ W.heap[g]? = some o
  | .own t sz v n xs => W.ownsRow B t sz v n xs
  | .any hs Q => Q W ∧ (∀ b, hs b → B ≤ b ∧ b < W.heap.size) ∧ ∀ W1 W2 : World, Q W1 → W1.heap.size ≤ W2.heap.size → (∀ b, hs b → W2.heap[b]? = W1.heap[b]?) → Q W2
/-- a list of the call's own with elements of a type of its own -/
abbrev lst {α : Type} (R : Row α) (v : Value) (n : Nat) (L : List α) : Thing := .own R.et R.sz v n (R.all L)
abbrev slv (g n c : Nat) : Value := .slice (some ⟨g, 0, none⟩) n c
section
variable {B0 : Nat} {W W' : World} {x : Thing}
theorem Thing.holds.lt (h : x.holds B0 W) {g : Nat} (hg : x.has g) : B0 ≤ g ∧ g < W.heap.size := by
  cases x with
  | box g' o =>
    obtain rfl : g = g' := hg
    exact ⟨h.1, e_lt h.2⟩
  | own t sz v n xs => exact World.ownsRow.lt h g hg
  | any hs Q => exact h.2.1 g hg
theorem Thing.holds.same (h : x.holds B0 W) (hz : W.heap.size ≤ W'.heap.size) (hs : ∀ b, x.has b → W'.heap[b]? = W.heap[b]?) : x.holds B0 W' := by
  cases x with
  | box g p => exact ⟨h.1, (hs g rfl).trans h.2⟩
  | own t sz v n xs =>
    refine ⟨h.1, h.2.imp id ?_⟩
    rintro ⟨g, cap, cur, rfl, hb, hgg, rest⟩
    exact ⟨g, cap, cur, rfl, hb, (hs g rfl).trans hgg, rest⟩
  | any hs' Q => exact ⟨h.2.2 W W' h.1 hz hs, fun b hb => ⟨(h.2.1 b hb).1, Nat.lt_of_lt_of_le (h.2.1 b hb).2 hz⟩, h.2.2⟩
theorem Thing.holds.kept {o : Option Nat} (h : x.holds B0 W) (hg : W.grownBy W' o) (ho : ∀ g, x.has g → o ≠ some g) : x.holds B0 W' :=
  h.same hg.size fun b hb => hg.block b (h.lt hb).2 (fun e => ho b hb e.symm)
theorem Thing.holds.on (h : x.holds B0 W) (hb : Below W.heap.size W W') : x.holds B0 W' := h.same hb.size fun b hb' => hb.block b (h.lt hb').2
end
structure Env (w W : World) (T : List Thing) : Prop where
  hold : ∀ x ∈ T, x.holds w.heap.size W
  nd : ∀ (i j : Nat) (x y : Thing) (g : Nat), T[i]? = some x → T[j]? = some y → x.has g → y.has g → i = j
  hb : Below w.heap.size w W
section
variable {w W W' : World} {T : List Thing}
/-- to give the world of a walk a name: 'obtain ⟨w8, rfl⟩ := K.name' -/
theorem Env.name (_ : Env w W T) : ∃ W0, W0 = W := ⟨W, rfl⟩
theorem Env.start (w : World) : Env w w [] := ⟨fun _ h => absurd h (by simp), fun i _ _ _ _ h => by simp at h, Below.refl _ _⟩
theorem Env.at' (K : Env w W T) (i : Nat) {x : Thing} (h : T[i]? = some x) : x.holds w.heap.size W := K.hold _ (List.mem_of_getElem? h)
theorem Env.get (K : Env w W T) (i : Nat) {g : Nat} {o : Obj} (h : T[i]? = some (.box g o)) : W.heap[g]? = some o := (K.at' i h).2
theorem Env.lo (K : Env w W T) (i : Nat) {g : Nat} {o : Obj} (h : T[i]? = some (.box g o)) : w.heap.size ≤ g := (K.at' i h).1
theorem Env.lt (K : Env w W T) (i : Nat) {g : Nat} {o : Obj} (h : T[i]? = some (.box g o)) : g < W.heap.size := e_lt (K.get i h)
theorem Env.own (K : Env w W T) (i : Nat) {t : TypeId} {sz n : Nat} {v : Value} {xs : List Value} (h : T[i]? = some (.own t sz v n xs)) : W.ownsRow w.heap.size t sz v n xs := K.at' i h
theorem Env.on (K : Env w W T) (h : Below W.heap.size W W') : Env w W' T := ⟨fun x hx => (K.hold x hx).on h, K.nd, K.hb.trans (h.mono K.hb.size)⟩
theorem Env.drew (K : Env w W T) : Env w W.drew T := K.on (Below.refl _ _).drew
theorem Env.cons (K : Env w W T) (h : Below W.heap.size W W') {y : Thing} (hy : y.holds w.heap.size W') (hn : ∀ g, y.has g → W.heap.size ≤ g) : Env w W' (y :: T) := by
  have hap : ∀ (j : Nat) (z : Thing) (g : Nat), T[j]? = some z → y.has g → z.has g → False := fun j z g hz h1 h2 => by
    have a1 := hn g h1
    have a2 := ((K.hold z (List.mem_of_getElem? hz)).lt h2).2
    omega
  refine ⟨fun x hx => ?_, fun i j a b g hi hj ha hb => ?_, (K.on h).hb⟩
  · rcases List.mem_cons.1 hx with rfl | hx
    · exact hy
    · exact (K.hold x hx).on h
  · cases i with
    | zero =>
      cases j with
      | zero => rfl
      | succ j =>
        obtain rfl := Option.some.inj hi
        exact (hap j b g hj ha hb).elim
    | succ i =>
      cases j with
      | zero =>
        obtain rfl := Option.some.inj hj
        exact (hap i a g hi hb ha).elim
      | succ j => rw [K.nd i j a b g hi hj ha hb]
theorem Env.al (K : Env w W T) (o : Obj) : Env w (W.alloc o) (.box W.heap.size o :: T) :=
  K.cons ((Below.refl _ _).alloc (Nat.le_refl _) o) (show Thing.holds w.heap.size (W.alloc o) (.box W.heap.size o) from ⟨K.hb.size, heap_alloc_new W o⟩) (fun g hg => by obtain rfl : g = W.heap.size := hg; exact Nat.le_refl _)
theorem Env.al' (K : Env w W T) (o : Obj) : Env w (W.alloc o) T := K.on ((Below.refl _ _).alloc (Nat.le_refl _) o)
/-- a list without elements, in a block of its own; one without a block -/
theorem Env.empty {α : Type} (R : Row α) (K : Env w W T) : Env w (W.alloc (.cells #[] R.et)) (lst R (slv W.heap.size 0 0) 0 [] :: T) :=
  K.cons ((Below.refl _ _).alloc (Nat.le_refl _) _) (owns_mono (own_empty R W rfl) K.hb.size) (fun g hg => by obtain rfl := Option.some.inj hg; exact Nat.le_refl _)
theorem Env.nil {α : Type} (R : Row α) (K : Env w W T) : Env w W (lst R (.slice none 0 0) 0 [] :: T) :=
  K.cons (Below.refl _ _) (own_none R W _) (fun g hg => by cases hg)
/-- one thing changes, in its own block or into a new one; all others stay -/
theorem Env.set (K : Env w W T) {o : Option Nat} (h : W.grownBy W' o) (i : Nat) {x y : Thing} (hx : T[i]? = some x) (ho : ∀ g, o = some g → x.has g) (hy : y.holds w.heap.size W')
    (hn : ∀ g, y.has g → x.has g ∨ W.heap.size ≤ g) : Env w W' (T.set i y) := by
  have hkeep : ∀ (j : Nat) (z : Thing), j ≠ i → T[j]? = some z → z.holds w.heap.size W' := fun j z hji hz => by
    refine (K.at' j hz).kept h (fun g hg e => hji ?_)
    exact K.nd j i z x g hz hx hg (ho g e)
  have hap : ∀ (j : Nat) (z : Thing) (g : Nat), j ≠ i → T[j]? = some z → z.has g → y.has g → False := fun j z g hji hz h1 h2 => by
    rcases hn g h2 with h3 | h3
    · exact hji (K.nd j i z x g hz hx h1 h3)
    · have := ((K.at' j hz).lt h1).2
      omega
  have hlt : i < T.length := (List.getElem?_eq_some_iff.1 hx).1
  refine ⟨fun z hz => ?_, fun a b p q g ha hb hp hq => ?_, ?_⟩
  · obtain ⟨j, hj⟩ := List.mem_iff_getElem?.1 hz
    by_cases hji : j = i
    · subst hji
      rw [List.getElem?_set_self hlt] at hj
      obtain rfl := Option.some.inj hj
      exact hy
    · rw [List.getElem?_set_ne (fun e => hji e.symm)] at hj
      exact hkeep j z hji hj
  · by_cases hai : a = i
    · by_cases hbi : b = i
      · rw [hai, hbi]
      · subst hai
        rw [List.getElem?_set_self hlt] at ha
        obtain rfl := Option.some.inj ha
        rw [List.getElem?_set_ne (fun e => hbi e.symm)] at hb
        exact (hap b q g hbi hb hq hp).elim
    · rw [List.getElem?_set_ne (fun e => hai e.symm)] at ha
      by_cases hbi : b = i
      · subst hbi
        rw [List.getElem?_set_self hlt] at hb
        obtain rfl := Option.some.inj hb
        exact (hap a p g hai ha hp hq).elim
      · rw [List.getElem?_set_ne (fun e => hbi e.symm)] at hb
        exact K.nd a b p q g ha hb hp hq
  · exact K.hb.grown h K.hb.size (fun g hg => ((K.at' i hx).lt (ho g hg)).1)
/-- a whole row is stored into a box -/
theorem Env.put (K : Env w W T) (i : Nat) {g : Nat} {cs cs' : Array Value} {t : TypeId} (hx : T[i]? = some (.box g (.cells cs t (0, 0)))) {T' : List Thing} (hT : T' = T.set i (.box g (.cells cs' t (0, 0)))) : Env w (W.setRow g cs') T' := by
  subst hT
  have hg := K.get i hx
  have hgr : W.grownBy (W.setRow g cs') (some g) := ⟨rfl, rfl, rfl, by simp, fun k _ hk => setRow_other W g k _ (fun e => hk (by rw [e]))⟩
  exact K.set hgr i hx (fun g' h => (Option.some.inj h).symm) (show Thing.holds w.heap.size (W.setRow g cs') (.box g (.cells cs' t (0, 0))) from ⟨K.lo i hx, setRow_heap _ _ _ _ _ _ hg⟩) (fun g' h => .inl h)
/-- one cell of a box is stored, as a walk writes it -/
theorem Env.put1 (K : Env w W T) (i : Nat) {g : Nat} {cs cs' : Array Value} {t : TypeId} (hx : T[i]? = some (.box g (.cells cs t (0, 0)))) (o : Nat) (v : Value) (hc : cs.setIfInBounds o v = cs') {T' : List Thing} (hT : T' = T.set i (.box g (.cells cs' t (0, 0)))) : Env w (W.setCell ⟨g, o, none⟩ v) T' := by
  rw [setCell_eq_setRow W g o cs t (0, 0) v (K.get i hx), hc]
  exact K.put i hx hT
/-- the last step's things, without those that are not wanted any more, in another order -/
theorem Env.sub (K : Env w W T) (f : List Nat) {T' : List Thing} (hT : T' = f.filterMap (T[·]?)) (hf : f.Nodup) (hl : ∀ i ∈ f, i < T.length) : Env w W T' := by
  subst hT
  have hget : ∀ (i : Nat) (x : Thing), (f.filterMap (T[·]?))[i]? = some x → ∃ k, f[i]? = some k ∧ T[k]? = some x := by
    clear hf
    induction f with
    | nil => intro i x h; simp at h
    | cons k f ih =>
      intro i x h
      have hk := hl k (by simp)
      rw [List.filterMap_cons, List.getElem?_eq_getElem hk] at h
      cases i with
      | zero => exact ⟨k, rfl, by rw [List.getElem?_eq_getElem hk]; simpa using h⟩
      | succ i => exact ih (fun i hi => hl i (List.mem_cons_of_mem _ hi)) i x (by simpa using h)
  refine ⟨fun x hx => ?_, fun i j x y g hi hj hx hy => ?_, K.hb⟩
  · obtain ⟨k, _, hk⟩ := List.mem_filterMap.1 hx
    exact K.at' k hk
  · obtain ⟨k, hk, hkx⟩ := hget i x hi
    obtain ⟨l, hl', hly⟩ := hget j y hj
    have := K.nd k l x y g hkx hly hx hy
    subst this
    have h1 := (List.getElem?_eq_some_iff.1 hk).1
    have h2 := (List.getElem?_eq_some_iff.1 hl').1
    exact (List.getElem_inj (h₀ := h1) (h₁ := h2) hf).1 (by rw [(List.getElem_eq_iff h1).2 hk, (List.getElem_eq_iff h2).2 hl'])
/-- the blocks in which lists may lie that the walk only reads: those of F, or new ones; no box, and no list of its own -/
def Quiet (w : World) (F : Nat → Prop) (W : World) (T : List Thing) : Nat → Prop := fun b => (F b ∨ w.heap.size ≤ b) ∧ b < W.heap.size ∧ ∀ x ∈ T, ¬ x.has b
structure Keep (w : World) (F : Nat → Prop) (W : World) (T : List Thing) (W' : World) (T' : List Thing) : Prop where
  size : W.heap.size ≤ W'.heap.size
  rest : ∀ b, Quiet w F W T b → Quiet w F W' T' b
  same : ∀ b, Quiet w F W T b → W'.heap[b]? = W.heap[b]?
variable {F : Nat → Prop} {T' : List Thing}
theorem Keep.on' (k : Keep w F W T W' T') : Same (Quiet w F W T) W W' := ⟨k.size, fun b hb _ => k.same b hb⟩
theorem Env.keep_refl (_ : Env w W T) : Keep w F W T W T := ⟨Nat.le_refl _, fun _ h => h, fun _ _ => rfl⟩
theorem Keep.trans {W2 : World} {T2 : List Thing} (k : Keep w F W T W' T') (k2 : Keep w F W' T' W2 T2) : Keep w F W T W2 T2 :=
  ⟨Nat.le_trans k.size k2.size, fun b h => k2.rest b (k.rest b h), fun b h => (k2.same b (k.rest b h)).trans (k.same b h)⟩
theorem Env.keep_on (_ : Env w W T) (h : Below W.heap.size W W') : Keep w F W T W' T :=
  ⟨h.size, fun _ hb => ⟨hb.1, Nat.lt_of_lt_of_le hb.2.1 h.size, hb.2.2⟩, fun b hb => h.block b hb.2.1⟩
theorem Env.keep_al (_ : Env w W T) (o : Obj) : Keep w F W T (W.alloc o) (.box W.heap.size o :: T) := by
  refine ⟨by simp, fun b hb => ⟨hb.1, by have := hb.2.1; simp; omega, fun x hx => ?_⟩, fun b hb => heap_alloc_old W o hb.2.1⟩
  rcases List.mem_cons.1 hx with rfl | hx
  · intro e
    have : b = W.heap.size := by first | exact e | exact (Option.some.inj e).symm
    have := hb.2.1
    omega
  · exact hb.2.2 x hx
theorem Env.keep_empty {α : Type} (R : Row α) (_ : Env w W T) : Keep w F W T (W.alloc (.cells #[] R.et)) (lst R (slv W.heap.size 0 0) 0 [] :: T) := by
  refine ⟨by simp, fun b hb => ⟨hb.1, by have := hb.2.1; simp; omega, fun x hx => ?_⟩, fun b hb => heap_alloc_old W _ hb.2.1⟩
  rcases List.mem_cons.1 hx with rfl | hx
  · intro e
    have : b = W.heap.size := by first | exact e | exact (Option.some.inj e).symm
    have := hb.2.1
    omega
  · exact hb.2.2 x hx
theorem Env.keep_nil {α : Type} (R : Row α) (_ : Env w W T) : Keep w F W T W (lst R (.slice none 0 0) 0 [] :: T) := by
  refine ⟨Nat.le_refl _, fun b hb => ⟨hb.1, hb.2.1, fun x hx => ?_⟩, fun _ _ => rfl⟩
  rcases List.mem_cons.1 hx with rfl | hx
  · intro e
    cases e
  · exact hb.2.2 x hx
/-- one thing changes, in its own block or into a new one -/
theorem Env.keep_set (_ : Env w W T) {o : Option Nat} (h : W.grownBy W' o) (i : Nat) {x y : Thing} (hx : T[i]? = some x) (ho : ∀ g, o = some g → x.has g)
    (hn : ∀ g, y.has g → x.has g ∨ W.heap.size ≤ g) : Keep w F W T W' (T.set i y) := by
  have hxm := List.mem_of_getElem? hx
  refine ⟨h.size, fun b hb => ⟨hb.1, Nat.lt_of_lt_of_le hb.2.1 h.size, fun z hz e => ?_⟩, fun b hb => h.block b hb.2.1 (fun e => hb.2.2 x hxm (ho b e.symm))⟩
  rcases List.mem_or_eq_of_mem_set hz with hz | rfl
  · exact hb.2.2 z hz e
  · rcases hn b e with h1 | h1
    · exact hb.2.2 x hxm h1
    · have := hb.2.1
      omega
theorem Env.keep_put (K : Env w W T) (i : Nat) {g : Nat} {cs cs' : Array Value} {t : TypeId} (hx : T[i]? = some (.box g (.cells cs t (0, 0)))) {T' : List Thing} (hT : T' = T.set i (.box g (.cells cs' t (0, 0)))) : Keep w F W T (W.setRow g cs') T' := by
  subst hT
  have hgr : W.grownBy (W.setRow g cs') (some g) := ⟨rfl, rfl, rfl, by simp, fun k _ hk => setRow_other W g k _ (fun e => hk (by rw [e]))⟩
  exact K.keep_set hgr i hx (fun g' h => (Option.some.inj h).symm) (fun g' h => .inl h)
/-- fewer things: more blocks that are only read -/
theorem Env.keep_sub (_ : Env w W T) (h : ∀ x ∈ T', x ∈ T) : Keep w F W T W T' := ⟨Nat.le_refl _, fun _ hb => ⟨hb.1, hb.2.1, fun x hx => hb.2.2 x (h x hx)⟩, fun _ _ => rfl⟩
theorem Env.keep_put1 (K : Env w W T) (i : Nat) {g : Nat} {cs cs' : Array Value} {t : TypeId} (hx : T[i]? = some (.box g (.cells cs t (0, 0)))) (o : Nat) (v : Value) (hc : cs.setIfInBounds o v = cs') {T' : List Thing} (hT : T' = T.set i (.box g (.cells cs' t (0, 0)))) : Keep w F W T (W.setCell ⟨g, o, none⟩ v) T' := by
  rw [setCell_eq_setRow W g o cs t (0, 0) v (K.get i hx), hc]
  exact K.keep_put i hx hT
theorem Env.free (K : Env w W T) (i : Nat) {g : Nat} {cs : Array Value} {t : TypeId} (hx : T[i]? = some (.box g (.cells cs t (0, 0)))) (o : Nat) : W.frozen? ⟨g, o, none⟩ = false := by simp [World.frozen?, K.get i hx]
theorem Env.keep_drew (K : Env w W T) : Keep w F W T W.drew T := K.keep_on (Below.refl _ _).drew
/-- blocks of a call's result are blocks that the walk only reads -/
theorem Env.fresh (K : Env w W T) (h : Below W.heap.size W W') : ∀ b, b < W'.heap.size → (Quiet w F W T b ∨ W.heap.size ≤ b) → Quiet w F W' T b := by
  rintro b hb (h1 | h1)
  · exact (K.keep_on h).rest b h1
  · exact ⟨.inr (Nat.le_trans K.hb.size h1), hb, fun x hx e => by have := ((K.hold x hx).lt e).2; omega⟩
theorem Quiet.start {b : Nat} (hb : F b) (hl : b < w.heap.size) : Quiet w F w [] b := ⟨.inl hb, hl, fun _ h => absurd h (by simp)⟩
variable {α : Type} {R : Row α}
theorem Env.list (hR : R.Ok) (K : Env w W T) (i : Nat) {g n c : Nat} {L : List α} (h : T[i]? = some (lst R (slv g n c) n L)) : TList R W (fun b => w.heap.size ≤ b) (some ⟨g, 0, none⟩) n c L := by
  obtain ⟨a', c', e, hl⟩ := owns_list (F := fun b => w.heap.size ≤ b) hR (K.own i h) (fun b hb => ((K.own i h).lt b hb).1)
  cases e
  exact hl
theorem grown_none (w : World) (r : Option Nat) : w.grownBy w r := e_grown w r
/-- the append of a list that lies in memory to one of the call's own -/
theorem Env.app_listW (hR : R.Ok) {o : Oper} {a : Act} {K' : Act → World → Prop} {Q : Exit → Act → World → Prop} (s x : Operand)
    (ho : o.op = .call { callee := .builtin .append, args := #[s, x], argTypes := #[R.st, R.st] }) (K : Env w W T) (i : Nat) {g m0 c0 : Nat} {M : List α} (hi : T[i]? = some (lst R (slv g m0 c0) m0 M))
    (hs : a.eval s = slv g m0 c0) {F : Nat → Prop} {sa : Option Addr} {m c : Nat} {L : List α} (hx : a.eval x = .slice sa m c) (hl : TList R W F sa m c L) (hm : m0 + m ≤ 1000000000000000) (hm2 : (m0 + m) * R.wide ≤ 140737488355328)
    (h : ∀ g' c' W', Env w W' (T.set i (lst R (slv g' (m0 + m) c') (m0 + m) (M ++ L))) → (∀ F, Keep w F W T W' (T.set i (lst R (slv g' (m0 + m) c') (m0 + m) (M ++ L)))) → K' (a.put o.dst (slv g' (m0 + m) c')) W') : o.wp Tryz.prog a W K' Q := by
  have hown := K.own i hi
  obtain ⟨i1, hi1, hy0, hy1, hy2⟩ := info_parts hR.info
  cases sa with
  | none =>
    obtain ⟨rfl, rfl, rfl⟩ := hl.none
    have hrun := run_append_owned_none (P := Tryz.prog) (w := W) w.heap.size R.st o.type R.et i1 R.sz hR.und hi1 _ m0 (R.all M) hown
    unfold Oper.wp
    simp [execOp, ho, resolve, invoke, builtin, hs, hx, hrun, Result.andThen]
    have h9 := h g c0 W (by
      rw [List.append_nil, Nat.add_zero]
      exact K.set (grown_none W none) i hi (fun g' e => by cases e) hown (fun g' e => .inl e)) (fun F => by
      rw [List.append_nil, Nat.add_zero]
      exact K.keep_set (grown_none W none) i hi (fun g' e => by cases e) (fun g' e => .inl e))
    rw [Nat.add_zero] at h9
    exact h9
  | some ad =>
    obtain ⟨v', w', hr, h2, h3, h4, h5⟩ := run_append_own_at (P := Tryz.prog) W w.heap.size R.st o.type R.et i1 _ R.sz R.wide hR.und hi1 hy0 hy1 hy2 hR.zs hR.pos _ m0 (R.all M) hown ad m c (R.all L) (by rw [all_length hR, hl.length]) hl.news (all_flat hR L) (by unfold maxLen; omega) hm2 K.hb.size
    have hv : ∃ g' c', v' = slv g' (m0 + m) c' := by
      rcases h2.2 with ⟨e, _⟩ | ⟨g', c', _, e, _⟩
      · exact absurd (h4.1 e).1 (by simp)
      · exact ⟨g', c', e⟩
    obtain ⟨g', c', rfl⟩ := hv
    rw [← all_append] at h2
    unfold Oper.wp execOp
    simp only [ho, resolve, invoke, builtin, Sem.run_bind, Sem.run_pure, Result.andThen_ok, List.map_toArray, List.map_cons, List.map_nil, hs, hx, hr]
    have hn : ∀ g9, (lst R (slv g' (m0 + m) c') (m0 + m) (M ++ L)).has g9 → (lst R (slv g m0 c0) m0 M).has g9 ∨ W.heap.size ≤ g9 := fun g9 e => by
      rcases h5 with h5 | h5
      · exact .inl (h5.symm.trans e)
      · right
        have := h5.symm.trans e
        have := Option.some.inj this
        omega
    exact h g' c' w' (K.set h3 i hi (fun g9 e => e) h2 hn) (fun F => K.keep_set h3 i hi (fun g9 e => e) hn)
theorem Env.app_list (hR : R.Ok) {o : Oper} {a : Act} {K' : Act → World → Prop} {Q : Exit → Act → World → Prop} (s x : Operand)
    (ho : o.op = .call { callee := .builtin .append, args := #[s, x], argTypes := #[R.st, R.st] }) (K : Env w W T) (i : Nat) {g m0 c0 : Nat} {M : List α} (hi : T[i]? = some (lst R (slv g m0 c0) m0 M))
    (hs : a.eval s = slv g m0 c0) {F : Nat → Prop} {sa : Option Addr} {m c : Nat} {L : List α} (hx : a.eval x = .slice sa m c) (hl : TList R W F sa m c L) (hm : m0 + m ≤ 1000000)
    (h : ∀ g' c' W', Env w W' (T.set i (lst R (slv g' (m0 + m) c') (m0 + m) (M ++ L))) → (∀ F, Keep w F W T W' (T.set i (lst R (slv g' (m0 + m) c') (m0 + m) (M ++ L)))) → K' (a.put o.dst (slv g' (m0 + m) c')) W') : o.wp Tryz.prog a W K' Q :=
  K.app_listW hR s x ho i hi hs hx hl (by omega) (Nat.le_trans (Nat.mul_le_mul hm hR.small) (by decide)) h
/-- the append of one element that lies in a box -/
theorem Env.app_one (hR : R.Ok) {o : Oper} {a : Act} {K' : Act → World → Prop} {Q : Exit → Act → World → Prop} (s x : Operand)
    (ho : o.op = .call { callee := .builtin .append, args := #[s, x], argTypes := #[R.st, R.st] }) (K : Env w W T) (i j : Nat) {v : Value} {m0 : Nat} {M : List α} (hi : T[i]? = some (lst R v m0 M))
    (hs : a.eval s = v) {g : Nat} {e : α} {fr : Nat × Nat} (hj : T[j]? = some (.box g (.cells (R.c e).toArray R.et fr))) (hx : a.eval x = slv g 1 1) (hm : m0 ≤ 900000)
    (h : ∀ g' c' W', Env w W' (T.set i (lst R (slv g' (m0 + 1) c') (m0 + 1) (M ++ [e]))) → (∀ F, Keep w F W T W' (T.set i (lst R (slv g' (m0 + 1) c') (m0 + 1) (M ++ [e])))) → K' (a.put o.dst (slv g' (m0 + 1) c')) W') : o.wp Tryz.prog a W K' Q :=
  wp_append_one hR s x ho w.heap.size v m0 M hs (K.own i hi) g e hx (K.get j hj) hm K.hb.size fun g' c' w' h1 h2 h3 => by
    have hn : ∀ g9, (lst R (slv g' (m0 + 1) c') (m0 + 1) (M ++ [e])).has g9 → (lst R v m0 M).has g9 ∨ W.heap.size ≤ g9 := fun g9 e9 => by
      obtain rfl := Option.some.inj e9
      rcases h3 with h3 | h3
      · exact .inl h3
      · exact .inr (by show W.heap.size ≤ g'; omega)
    exact h g' c' w' (K.set h2 i hi (fun g9 e9 => e9) h1 hn) (fun F => K.keep_set h2 i hi (fun g9 e9 => e9) hn)
/-- the same at a list of operations -/
theorem Env.apps_list (hR : R.Ok) {ops : Array Oper} {rest : List Oper} {o : Oper} {a : Act} {Q : Exit → Act → World → Prop} (hgd : o.guard = none) (s x : Operand)
    (ho : o.op = .call { callee := .builtin .append, args := #[s, x], argTypes := #[R.st, R.st] }) (K : Env w W T) (i : Nat) {g m0 c0 : Nat} {M : List α} (hi : T[i]? = some (lst R (slv g m0 c0) m0 M))
    (hs : a.eval s = slv g m0 c0) {F : Nat → Prop} {sa : Option Addr} {m c : Nat} {L : List α} (hx : a.eval x = .slice sa m c) (hl : TList R W F sa m c L) (hm : m0 + m ≤ 1000000)
    (h : ∀ g' c' W', Env w W' (T.set i (lst R (slv g' (m0 + m) c') (m0 + m) (M ++ L))) → (∀ F, Keep w F W T W' (T.set i (lst R (slv g' (m0 + m) c') (m0 + m) (M ++ L)))) → wpList Tryz.prog ops Q rest (a.put o.dst (slv g' (m0 + m) c')) W') : wpList Tryz.prog ops Q (o :: rest) a W :=
  wpList_plain hgd fun _ hK => K.app_list hR s x ho i hi hs hx hl hm fun g' c' W' h1 k1 => hK _ _ (h g' c' W' h1 k1)
theorem Env.apps_listW (hR : R.Ok) {ops : Array Oper} {rest : List Oper} {o : Oper} {a : Act} {Q : Exit → Act → World → Prop} (hgd : o.guard = none) (s x : Operand)
    (ho : o.op = .call { callee := .builtin .append, args := #[s, x], argTypes := #[R.st, R.st] }) (K : Env w W T) (i : Nat) {g m0 c0 : Nat} {M : List α} (hi : T[i]? = some (lst R (slv g m0 c0) m0 M))
    (hs : a.eval s = slv g m0 c0) {F : Nat → Prop} {sa : Option Addr} {m c : Nat} {L : List α} (hx : a.eval x = .slice sa m c) (hl : TList R W F sa m c L) (hm : m0 + m ≤ 1000000000000000) (hm2 : (m0 + m) * R.wide ≤ 140737488355328)
    (h : ∀ g' c' W', Env w W' (T.set i (lst R (slv g' (m0 + m) c') (m0 + m) (M ++ L))) → (∀ F, Keep w F W T W' (T.set i (lst R (slv g' (m0 + m) c') (m0 + m) (M ++ L)))) → wpList Tryz.prog ops Q rest (a.put o.dst (slv g' (m0 + m) c')) W') : wpList Tryz.prog ops Q (o :: rest) a W :=
  wpList_plain hgd fun _ hK => K.app_listW hR s x ho i hi hs hx hl hm hm2 fun g' c' W' h1 k1 => hK _ _ (h g' c' W' h1 k1)
theorem Env.apps_one (hR : R.Ok) {ops : Array Oper} {rest : List Oper} {o : Oper} {a : Act} {Q : Exit → Act → World → Prop} (hgd : o.guard = none) (s x : Operand)
    (ho : o.op = .call { callee := .builtin .append, args := #[s, x], argTypes := #[R.st, R.st] }) (K : Env w W T) (i j : Nat) {v : Value} {m0 : Nat} {M : List α} (hi : T[i]? = some (lst R v m0 M))
    (hs : a.eval s = v) {g : Nat} {e : α} {fr : Nat × Nat} (hj : T[j]? = some (.box g (.cells (R.c e).toArray R.et fr))) (hx : a.eval x = slv g 1 1) (hm : m0 ≤ 900000)
    (h : ∀ g' c' W', Env w W' (T.set i (lst R (slv g' (m0 + 1) c') (m0 + 1) (M ++ [e]))) → (∀ F, Keep w F W T W' (T.set i (lst R (slv g' (m0 + 1) c') (m0 + 1) (M ++ [e])))) → wpList Tryz.prog ops Q rest (a.put o.dst (slv g' (m0 + 1) c')) W') : wpList Tryz.prog ops Q (o :: rest) a W :=
  wpList_plain hgd fun _ hK => K.app_one hR s x ho i j hi hs hj hx hm fun g' c' W' h1 k1 => hK _ _ (h g' c' W' h1 k1)
theorem run_store_at {P : Program} {w : World} {g o : Nat} {ty t : TypeId} {v : Value} {cs : Array Value} (hg : w.heap[g]? = some (.cells cs t (0, 0))) (ho : o < cs.size) (hi : (P.info? ty).map (·.size) = some 1) (hv : v.cells = #[v]) (hv1 : v.oneCell' = true) :
    (storeVar ty ⟨g, o, none⟩ v).run P w = .ok () (w.setRow g (cs.setIfInBounds o v)) := by
  cases hq : P.info? ty with
  | none => simp [hq] at hi
  | some i =>
    have hs : i.size = 1 := by simpa [hq] using hi
    have hst := run_store P w ⟨g, o, none⟩ v .plain hv1
    rw [cell_of_row w g o _ _ _ hg, show w.frozen? ⟨g, o, none⟩ = false by simp [World.frozen?, hg], Array.getElem?_eq_getElem ho] at hst
    simp only [Bool.false_eq_true, if_false] at hst
    have ha : (⟨g, o, none⟩ : Addr).add 0 = ⟨g, o, none⟩ := by rw [Addr.add_lit, Nat.add_zero]
    rw [setCell_eq_setRow w g o cs t (0, 0) v hg] at hst
    simp [storeVar, sizeOf, typeInfo, hq, hv, hs, storeCells, ha, hst]
/-- one cell of a box is stored -/
theorem Env.store1 {o : Oper} {a : Act} {K' : Act → World → Prop} {Q : Exit → Act → World → Prop} (K : Env w W T) (i : Nat) {g : Nat} {cs : Array Value} {t : TypeId} (hi : T[i]? = some (.box g (.cells cs t (0, 0)))) (ty : TypeId) (x y : Operand) (hop : o.op = .store ty x y)
    (k : Nat) (v : Value) (hx : a.eval x = .pointer (some ⟨g, k, none⟩)) (hy : a.eval y = v) (ho : k < cs.size) (hinf : (Tryz.prog.info? ty).map (·.size) = some 1) (hv : v.cells = #[v]) (hv1 : v.oneCell' = true)
    (h : ∀ W', Env w W' (T.set i (.box g (.cells (cs.setIfInBounds k v) t (0, 0)))) → (∀ F, Keep w F W T W' (T.set i (.box g (.cells (cs.setIfInBounds k v) t (0, 0))))) → K' (a.put o.dst undef) W') : o.wp Tryz.prog a W K' Q := by
  unfold Oper.wp execOp
  simp only [hop, hx, hy, Instr.storeAt, Instr.sureAddr, Sem.run_bind, Sem.run_pure, Result.andThen_ok, run_store_at (v := v) (K.get i hi) ho hinf hv hv1]
  exact h _ (K.put i hi rfl) (fun _ => K.keep_put i hi rfl)
/-- a whole row is stored into a box -/
theorem Env.storeRow {o : Oper} {a : Act} {K' : Act → World → Prop} {Q : Exit → Act → World → Prop} (K : Env w W T) (i : Nat) {g : Nat} {cs : Array Value} {t : TypeId} (hi : T[i]? = some (.box g (.cells cs t (0, 0)))) (ty : TypeId) (x y : Operand) (hop : o.op = .store ty x y)
    (cs' : Array Value) (hx : a.eval x = .pointer (some ⟨g, 0, none⟩)) (hy : a.eval y = .agg cs') (hinf : (Tryz.prog.info? ty).map (·.size) = some cs'.size) (hold : cs.size = cs'.size) (h1 : cs'.all (·.oneCell') = true)
    (h : ∀ W', Env w W' (T.set i (.box g (.cells cs' t (0, 0)))) → (∀ F, Keep w F W T W' (T.set i (.box g (.cells cs' t (0, 0))))) → K' (a.put o.dst undef) W') : o.wp Tryz.prog a W K' Q :=
  wp_store_row ty x y hop g cs' hx hy t cs (K.get i hi) hinf hold h1 (h _ (K.put i hi rfl) (fun _ => K.keep_put i hi rfl))
/-- an element of one cell is stored into a list of the walk's own -/
theorem Env.set1 (hR : R.Ok) (hs : R.sz = 1) (K : Env w W T) (i : Nat) {g n c : Nat} {L : List α} (h : T[i]? = some (lst R (slv g n c) n L)) {k : Nat} (hk : k < n) (e : α) {u : Value} (hu : R.c e = [u]) :
    Env w (W.setCell ⟨g, k, none⟩ u) (T.set i (lst R (slv g n c) n (L.set k e))) ∧ ∀ F, Keep w F W T (W.setCell ⟨g, k, none⟩ u) (T.set i (lst R (slv g n c) n (L.set k e))) := by
  have hown := K.own i h
  have h1 := own_set hR hown hk e
  rw [hs, Nat.mul_one, hu] at h1
  have h2 : (W.setCell ⟨g, k, none⟩ u).ownsRow w.heap.size R.et R.sz (slv g n c) n (R.all (L.set k e)) := by rw [hs]; exact h1
  obtain ⟨cur, hg⟩ : ∃ cur, W.heap[g]? = some (.cells cur R.et (0, 0)) := by
    rcases hown.2 with ⟨h9, _⟩ | ⟨g', cap, cur, hv, _, hg, _⟩
    · cases h9
    · cases hv
      exact ⟨cur, hg⟩
  have hgr : W.grownBy (W.setCell ⟨g, k, none⟩ u) (some g) := by
    rw [setCell_eq_setRow W g k cur _ _ u hg]
    exact ⟨rfl, rfl, rfl, by simp, fun j _ hj => setRow_other W g j _ (fun e => hj (by rw [e]))⟩
  exact ⟨K.set hgr i h (fun g' e => e) h2 (fun g' e => .inl e), fun _ => K.keep_set hgr i h (fun g' e => e) (fun g' e => .inl e)⟩
theorem Env.own1 (hR : R.Ok) (hs : R.sz = 1) (K : Env w W T) (i : Nat) {g n c : Nat} {L : List α} (h : T[i]? = some (lst R (slv g n c) n L)) {k : Nat} {e : α} (hk : L[k]? = some e) {u : Value} (hu : R.c e = [u]) : W.cell? ⟨g, k, none⟩ = some u ∧ W.frozen? ⟨g, k, none⟩ = false := by
  have h1 := own_cell hR (K.own i h) (j := k) (k := 0) (e := e) (u := u) hk (by rw [hu]; rfl)
  rwa [hs, Nat.mul_one, Nat.add_zero] at h1
/-- a list of n elements, all alike, in a new block -/
theorem Env.made (K : Env w W T) (e : α) (n : Nat) (hn : n ≤ maxLen) {cs : Array Value} (hc : cs.toList = R.all (List.replicate n e)) (hz : cs.size = n * R.sz) : Env w (W.alloc (.cells cs R.et)) (lst R (slv W.heap.size n n) n (List.replicate n e) :: T) :=
  K.cons ((Below.refl _ _).alloc (Nat.le_refl _) _) (show Thing.holds w.heap.size (W.alloc (.cells cs R.et)) (lst R (slv W.heap.size n n) n (List.replicate n e)) from by
    have := World.ownsRow_lit (base := w.heap.size) (e := R.et) (size := R.sz) W cs n K.hb.size hn hz
    rw [hc] at this
    exact this) (fun g hg => by obtain rfl := Option.some.inj hg; exact Nat.le_refl _)
theorem Env.keep_made (_ : Env w W T) (e : α) (n : Nat) (cs : Array Value) : Keep w F W T (W.alloc (.cells cs R.et)) (lst R (slv W.heap.size n n) n (List.replicate n e) :: T) := by
  refine ⟨by simp, fun b hb => ⟨hb.1, by have := hb.2.1; simp; omega, fun x hx => ?_⟩, fun b hb => heap_alloc_old W _ hb.2.1⟩
  rcases List.mem_cons.1 hx with rfl | hx
  · intro e
    have : b = W.heap.size := (Option.some.inj e).symm
    have := hb.2.1
    omega
  · exact hb.2.2 x hx
theorem made_all (hs : R.sz = 1) (e : α) {u : Value} (hu : R.c e = [u]) (n : Nat) : (madeCells #[u] n).toList = R.all (List.replicate n e) ∧ (madeCells #[u] n).size = n * R.sz := by
  refine ⟨?_, by rw [hs, Nat.mul_one]; simp [madeCells]⟩
  have h1 : (madeCells #[u] n).toList = List.replicate n u := by
    apply List.ext_getElem?
    intro i
    by_cases hi : i < n
    · simp [madeCells, hi, Nat.mod_one]
    · simp [madeCells, hi, Nat.mod_one]
  rw [h1]
  induction n with
  | zero => rfl
  | succ n ih =>
    rw [List.replicate_succ, List.replicate_succ, all_cons, hu, ← ih (by
      apply List.ext_getElem?
      intro i
      by_cases hi : i < n
      · simp [madeCells, hi, Nat.mod_one]
      · simp [madeCells, hi])]
    rfl
/-- an element of one cell is stored into a list of the walk's own, at the operation -/
theorem Env.store_own (hR : R.Ok) (hs : R.sz = 1) {o : Oper} {a : Act} {K' : Act → World → Prop} {Q : Exit → Act → World → Prop} (K : Env w W T) (i : Nat) {g n c : Nat} {L : List α} (h : T[i]? = some (lst R (slv g n c) n L)) (ty : TypeId) (x y : Operand) (hop : o.op = .store ty x y)
    {k : Nat} (hk : k < n) (e : α) {u : Value} (hu : R.c e = [u]) (hx : a.eval x = .pointer (some ⟨g, k, none⟩)) (hy : a.eval y = u) (hinf : (Tryz.prog.info? ty).map (·.size) = some 1) (hv : u.cells = #[u])
    (hh : ∀ W', Env w W' (T.set i (lst R (slv g n c) n (L.set k e))) → (∀ F, Keep w F W T W' (T.set i (lst R (slv g n c) n (L.set k e)))) → K' (a.put o.dst undef) W') : o.wp Tryz.prog a W K' Q := by
  have hown := K.own i h
  obtain ⟨cur, hg, hsz⟩ : ∃ cur, W.heap[g]? = some (.cells cur R.et (0, 0)) ∧ k < cur.size := by
    rcases hown.2 with ⟨h9, _⟩ | ⟨g', cap, cur, hv, _, hg, h1, _, h3, _⟩
    · cases h9
    · cases hv
      refine ⟨cur, hg, ?_⟩
      rw [h3, hs, Nat.mul_one]
      omega
  have hv1 : u.oneCell' = true := hR.flat e u (by rw [hu]; exact List.mem_singleton.2 rfl)
  have hset := K.set1 hR hs i h hk e hu
  rw [setCell_eq_setRow W g k cur _ _ u hg] at hset
  unfold Oper.wp execOp
  simp only [hop, hx, hy, Instr.storeAt, Instr.sureAddr, Sem.run_bind, Sem.run_pure, Result.andThen_ok, run_store_at (v := u) hg hsz hinf hv hv1]
  exact hh _ hset.1 hset.2
/-- a list of the walk's own that it is done with -/
theorem Env.settle (hR : R.Ok) (K : Env w W T) (i : Nat) {g n c : Nat} {L : List α} (h : T[i]? = some (lst R (slv g n c) n L)) : TList R W (Quiet w F W (T.eraseIdx i)) (some ⟨g, 0, none⟩) n c L := by
  rcases K.list hR i h with ⟨_, _, _, _⟩ | ⟨x, hx, h2, h3, h4, h5, h6, h7⟩
  · have h0 := K.list hR i h
    rcases h0 with ⟨_, h1, h2, h3⟩ | h0
    · have hown := (K.own i h).lt g rfl
      subst h1 h2 h3
      refine .inr ⟨_, rfl, Nat.le_refl _, Nat.zero_le _, rfl, hown.2, ⟨.inr hown.1, hown.2, ?_⟩, fun j u hu => by simp [Row.all] at hu⟩
      intro x hx e
      obtain ⟨j, hj, hji⟩ := List.mem_eraseIdx_iff_getElem?.1 hx
      exact hj (K.nd j i x _ g hji h e rfl)
    · obtain ⟨x, hx, h2, h3, h4, h5, h6, h7⟩ := h0
      cases hx
      refine .inr ⟨_, rfl, h2, h3, h4, h5, ⟨.inr h6, h5, ?_⟩, h7⟩
      intro x hx e
      obtain ⟨j, hj, hji⟩ := List.mem_eraseIdx_iff_getElem?.1 hx
      exact hj (K.nd j i x _ g hji h e rfl)
  · cases hx
    refine .inr ⟨_, rfl, h2, h3, h4, h5, ⟨.inr h6, h5, ?_⟩, h7⟩
    intro x hx e
    obtain ⟨j, hj, hji⟩ := List.mem_eraseIdx_iff_getElem?.1 hx
    exact hj (K.nd j i x _ g hji h e rfl)
end
end Go.Proofs.YtnmhnjjehglcfaaGreat.Env
namespace Go.Proofs.YtnmhnjjehglcfaaGreat.Rws
open Env Ents Go.RowKit
section
variable {α : Type} {R : Row α} {w W W' : World} {F : Nat → Prop} {T T' : List Thing} {a : Option Addr} {n c : Nat} {L : List α}
theorem TList.keep (h : TList R W (Quiet w F W T) a n c L) (k : Keep w F W T W' T') : TList R W' (Quiet w F W' T') a n c L := (h.on k.on').mono fun b _ hb => k.rest b hb
theorem TList.fewer (h : TList R W (Quiet w F W T) a n c L) (hs : ∀ y ∈ T', y ∈ T) : TList R W (Quiet w F W T') a n c L := h.mono fun _ _ hb => ⟨hb.1, hb.2.1, fun x hx => hb.2.2 x (hs x hx)⟩
theorem TList.rest0 (h : TList R w F a n c L) : TList R w (Quiet w F w []) a n c L := h.mono fun _ hl hb => Quiet.start hb hl
theorem TList.result (K : Env w W T) (hb : Below W.heap.size W W') (h : TList R W' (fun b => Quiet w F W T b ∨ W.heap.size ≤ b) a n c L) : TList R W' (Quiet w F W' T) a n c L := h.mono fun b hl hb' => K.fresh hb b hl hb'
theorem TList.leave (h : TList R W (Quiet w F W T) a n c L) : TList R W (fun b => F b ∨ w.heap.size ≤ b) a n c L := h.mono fun _ _ hb => hb.1
end
end Go.Proofs.YtnmhnjjehglcfaaGreat.Rws
