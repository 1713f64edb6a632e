/- Texts that belong together, part 14. -/
import Derived.Test.YtnmhnjjehglcfaaGreatPack13

/- Dice as a thing of a walk; functions that roll dice that they were given. -/
namespace Go.Proofs.YtnmhnjjehglcfaaGreat.Env
open Go.RowKit Plan Ents Rws
/-- all but the blocks of P is as it was -/
structure Chg (P : Nat → Prop) (W W' : World) : Prop where
  os : W'.os = W.os
  tape : W'.tape = W.tape
  output : W'.output = W.output
  size : W.heap.size ≤ W'.heap.size
  same : ∀ b, b < W.heap.size → ¬ P b → W'.heap[b]? = W.heap[b]?
abbrev btw (B g : Nat) : Nat → Prop := fun b => B ≤ b ∧ b ≤ g
section
variable {w W W' W2 : World} {F P : Nat → Prop} {T T' : List Thing}
theorem Chg.refl (W : World) : Chg P W W := ⟨rfl, rfl, rfl, Nat.le_refl _, fun _ _ _ => rfl⟩
theorem Chg.trans (h : Chg P W W') (k : Chg P W' W2) : Chg P W W2 :=
  ⟨k.os.trans h.os, k.tape.trans h.tape, k.output.trans h.output, Nat.le_trans h.size k.size, fun b hb hp => (k.same b (Nat.lt_of_lt_of_le hb h.size) hp).trans (h.same b hb hp)⟩
theorem Chg.grown {g : Nat} (h : W.grownBy W' (some g)) (hg : P g) : Chg P W W' := ⟨h.os, h.tape, h.output, h.size, fun b hb hp => h.block b hb (fun e => hp (by rw [Option.some.inj e]; exact hg))⟩
/-- the blocks of one thing change -/
theorem Env.change (K : Env w W T) (i : Nat) {x y : Thing} (hx : T[i]? = some x) (h : Chg x.has W W') (hy : y.holds w.heap.size W') (hn : ∀ g, y.has g → x.has g ∨ W.heap.size ≤ g) :
    Env w W' (T.set i y) ∧ ∀ F, Keep w F W T W' (T.set i y) := by
  have hkeep : ∀ (j : Nat) (z : Thing), j ≠ i → T[j]? = some z → z.holds w.heap.size W' := fun j z hji hz => by
    refine (K.at' j hz).same h.size fun b hb => h.same b ((K.at' j hz).lt hb).2 fun e => hji ?_
    exact K.nd j i z x b hz hx hb e
  have hap : ∀ (j : Nat) (z : Thing) (g : Nat), j ≠ i → T[j]? = some z → z.has g → y.has g → False := fun j z g hji hz h1 h2 => by
    rcases hn g h2 with h3 | h3
    · exact hji (K.nd j i z x g hz hx h1 h3)
    · have := ((K.at' j hz).lt h1).2
      omega
  have hlt : i < T.length := (List.getElem?_eq_some_iff.1 hx).1
  have hxm := List.mem_of_getElem? hx
  refine ⟨⟨fun z hz => ?_, fun a b p q g ha hb hp hq => ?_, ?_⟩, fun F => ⟨h.size, fun b hb => ⟨hb.1, Nat.lt_of_lt_of_le hb.2.1 h.size, fun z hz e => ?_⟩, fun b hb => h.same b hb.2.1 (hb.2.2 x hxm)⟩⟩
  · obtain ⟨j, hj⟩ := List.mem_iff_getElem?.1 hz
    by_cases hji : j = i
    · subst hji
      rw [List.getElem?_set_self hlt] at hj
      obtain rfl := Option.some.inj hj
      exact hy
    · rw [List.getElem?_set_ne (fun e => hji e.symm)] at hj
      exact hkeep j z hji hj
  · by_cases hai : a = i
    · by_cases hbi : b = i
      · rw [hai, hbi]
      · subst hai
        rw [List.getElem?_set_self hlt] at ha
        obtain rfl := Option.some.inj ha
        rw [List.getElem?_set_ne (fun e => hbi e.symm)] at hb
        exact (hap b q g hbi hb hq hp).elim
    · rw [List.getElem?_set_ne (fun e => hai e.symm)] at ha
      by_cases hbi : b = i
      · subst hbi
        rw [List.getElem?_set_self hlt] at hb
        obtain rfl := Option.some.inj hb
        exact (hap a p g hai ha hp hq).elim
      · rw [List.getElem?_set_ne (fun e => hbi e.symm)] at hb
        exact K.nd a b p q g ha hb hp hq
  · refine K.hb.trans ⟨h.os, h.tape, h.output, Nat.le_trans (Nat.le_of_eq rfl) h.size, fun b hb => h.same b (Nat.lt_of_lt_of_le hb K.hb.size) fun e => ?_⟩
    have := ((K.at' i hx).lt e).1
    omega
  · rcases List.mem_or_eq_of_mem_set hz with hz | rfl
    · exact hb.2.2 z hz e
    · rcases hn b e with h1 | h1
      · exact hb.2.2 x hxm h1
      · have := hb.2.1
        omega
/-- dice whose blocks lie from B to g -/
def dieT (B g : Nat) (zs : List Int) (k : Nat) : Thing := .any (btw B g) (fun W => Dice W B g zs k)
theorem die_same {B g : Nat} {zs : List Int} {k : Nat} {W1 W2 : World} (h : Dice W1 B g zs k) (hs : ∀ b, btw B g b → W2.heap[b]? = W1.heap[b]?) : Dice W2 B g zs k := by
  obtain ⟨v, hg, hown, hne, hB⟩ := h
  refine ⟨v, (hs g ⟨hB, Nat.le_refl _⟩).trans hg, ⟨hown.1, hown.2.imp id ?_⟩, hne, hB⟩
  rintro ⟨b, cap, cur, rfl, hb, hgg, rest⟩
  exact ⟨b, cap, cur, rfl, hb, (hs b ⟨hb, Nat.le_of_lt (hne b rfl)⟩).trans hgg, rest⟩
theorem die_holds {B0 B g : Nat} {zs : List Int} {k : Nat} (h : Dice W B g zs k) (hB : B0 ≤ B) : (dieT B g zs k).holds B0 W := by
  have hlt := dice_lt h
  exact ⟨h, fun b hb => ⟨Nat.le_trans hB hb.1, Nat.lt_of_le_of_lt hb.2 hlt⟩, fun _ _ h1 _ h3 => die_same h1 h3⟩
theorem Env.die (K : Env w W T) (i : Nat) {B g : Nat} {zs : List Int} {k : Nat} (h : T[i]? = some (dieT B g zs k)) : Dice W B g zs k := (K.at' i h).1
theorem Env.roll (K : Env w W T) {g : Nat} {zs : List Int} {k : Nat} (h : Dice W' W.heap.size g zs k) (hb : Below W.heap.size W W') : Env w W' (dieT W.heap.size g zs k :: T) ∧ ∀ F, Keep w F W T W' (dieT W.heap.size g zs k :: T) := by
  refine ⟨K.cons hb (die_holds h K.hb.size) (fun b hb => hb.1), fun F => ⟨hb.size, fun b hq => ⟨hq.1, Nat.lt_of_lt_of_le hq.2.1 hb.size, fun x hx e => ?_⟩, fun b hq => hb.block b hq.2.1⟩⟩
  rcases List.mem_cons.1 hx with rfl | hx
  · have h1 : W.heap.size ≤ b ∧ b ≤ g := e
    have := hq.2.1
    omega
  · exact hq.2.2 x hx e
/-- the dice are rolled -/
theorem Env.dice (K : Env w W T) (i : Nat) {B g : Nat} {zs : List Int} {k k' : Nat} (h : T[i]? = some (dieT B g zs k)) (hd : Dice W' B g zs k') (hc : Chg (btw B g) W W') :
    Env w W' (T.set i (dieT B g zs k')) ∧ ∀ F, Keep w F W T W' (T.set i (dieT B g zs k')) :=
  K.change i h hc (die_holds hd (by
    have hB : B ≤ g := hd.choose_spec.2.2.2
    exact ((K.at' i h).lt (show btw B g B from ⟨Nat.le_refl _, hB⟩)).1)) (fun b hb => .inl hb)
/-- a function that rolls dice that it was given: the world below the dice -/
def low (w : World) (B : Nat) : World := { w with heap := w.heap.extract 0 B }
theorem low_size {B : Nat} (h : B ≤ w.heap.size) : (low w B).heap.size = B := by simp [low]; omega
theorem low_below {B : Nat} (h : B ≤ w.heap.size) : Below (low w B).heap.size (low w B) w := by
  refine ⟨rfl, rfl, rfl, by rw [low_size h]; exact h, fun b hb => ?_⟩
  rw [low_size h] at hb
  simp only [low, Array.getElem?_extract, Nat.sub_zero, Nat.zero_add]
  rw [if_pos (by omega)]
theorem Env.given {B g : Nat} {zs : List Int} {k : Nat} (h : Dice w B g zs k) : Env (low w B) w [dieT B g zs k] := by
  have hlt := dice_lt h
  have hB : B ≤ g := h.choose_spec.2.2.2
  have hBw : B ≤ w.heap.size := by omega
  refine ⟨fun x hx => ?_, fun i j x y b hi hj _ _ => ?_, low_below hBw⟩
  · rw [List.mem_singleton.1 hx, low_size hBw]
    exact die_holds h (Nat.le_refl _)
  · have := (List.getElem?_eq_some_iff.1 hi).1
    have := (List.getElem?_eq_some_iff.1 hj).1
    simp at *
    omega
theorem next_chg (W : World) (B g : Nat) (zs : List Int) (k : Nat) (n : Int) (hd : Dice W B g zs k) (hl : zs.length ≤ 100000) (h1 : 1 ≤ n) (h2 : n ≤ 4611686018427387904) :
    Calls Tryz.prog 28 #[.pointer (some ⟨g, 0, none⟩), .int .i64 n] W fun r W' => r = .returned (.int .i64 (nxt zs k n)) ∧ Dice W' B g zs (stp zs k) ∧ Chg (btw B g) W W' := by
  have hB : B ≤ g := hd.choose_spec.2.2.2
  exact (next_any W B g zs k n hd hl h1 h2).mono fun r W' ⟨e, h3, h4, _⟩ => ⟨e, h3, Chg.grown h4 ⟨hB, Nat.le_refl _⟩⟩
end
end Go.Proofs.YtnmhnjjehglcfaaGreat.Env

/- More steps of a walk: dice whose number is any, lists that a call gave, fields of an element of a list of its own, what lies behind an index. -/
namespace Go.Proofs.YtnmhnjjehglcfaaGreat.Env
open Go.RowKit Plan Ents Rws
section
variable {w W W' : World} {T : List Thing} {α : Type} {R : Row α}
theorem Env.next (K : Env w W T) (i : Nat) {B g : Nat} {zs : List Int} {k : Nat} (h : T[i]? = some (dieT B g zs k)) (hl : zs.length ≤ 100000) (n : Int) (h1 : 1 ≤ n) (h2 : n ≤ 4611686018427387904) :
    Calls Tryz.prog 28 #[.pointer (some ⟨g, 0, none⟩), .int .i64 n] W fun r W' => ∃ (y k' : Nat), r = .returned (.int .i64 (y : Int)) ∧ (y : Int) < n ∧ k' ≤ k + 1 ∧ Env w W' (T.set i (dieT B g zs k')) ∧ ∀ F, Keep w F W T W' (T.set i (dieT B g zs k')) := by
  refine (next_chg W B g zs k n (K.die i h) hl h1 h2).mono ?_
  rintro r W' ⟨rfl, hd, hc⟩
  have hr := nxt_range zs k n h1
  have hs := stp_le zs k
  have hk := K.dice i h hd hc
  refine ⟨(nxt zs k n).toNat, _, by rw [Int.toNat_of_nonneg hr.1], by rw [Int.toNat_of_nonneg hr.1]; exact hr.2, hs, hk.1, hk.2⟩
/-- a list of its own that a call gave -/
theorem Env.got (K : Env w W T) (hb : Below W.heap.size W W') {t : TypeId} {sz n : Nat} {v : Value} {xs : List Value} (h : W'.ownsRow W.heap.size t sz v n xs) : Env w W' (.own t sz v n xs :: T) ∧ ∀ F, Keep w F W T W' (.own t sz v n xs :: T) := by
  have hf : ∀ g, (Thing.own t sz v n xs).has g → W.heap.size ≤ g := fun g hg => (h.lt g hg).1
  refine ⟨K.cons hb (owns_mono h K.hb.size) hf, fun F => ⟨hb.size, fun b hq => ⟨hq.1, Nat.lt_of_lt_of_le hq.2.1 hb.size, fun x hx e => ?_⟩, fun b hq => hb.block b hq.2.1⟩⟩
  rcases List.mem_cons.1 hx with rfl | hx
  · have := hf b e
    have := hq.2.1
    omega
  · exact hq.2.2 x hx e
/-- the cells of an element of a list of the walk's own -/
theorem Env.ownF (hR : R.Ok) (K : Env w W T) (i : Nat) {g n c : Nat} {L : List α} (h : T[i]? = some (lst R (slv g n c) n L)) {k f : Nat} {e : α} (hk : L[k]? = some e) {u : Value} (hu : (R.c e)[f]? = some u) : W.cell? ⟨g, k * R.sz + f, none⟩ = some u ∧ W.frozen? ⟨g, k * R.sz + f, none⟩ = false :=
  own_cell hR (K.own i h) hk hu
theorem all_set_field (hR : R.Ok) {L : List α} {k f : Nat} {e e' : α} (hk : L[k]? = some e) (hf : f < R.sz) {u : Value} (hc : R.c e' = (R.c e).set f u) : (R.all L).set (k * R.sz + f) u = R.all (L.set k e') := by
  induction L generalizing k with
  | nil => cases hk
  | cons x L ih =>
    cases k with
    | zero =>
      obtain rfl := Option.some.inj (show some x = some e from hk)
      rw [List.set_cons_zero, all_cons, all_cons, hc, Nat.zero_mul, Nat.zero_add, List.set_append_left _ _ (by rw [hR.len]; exact hf)]
    | succ k =>
      rw [List.set_cons_succ, all_cons, all_cons, ← ih (k := k) hk]
      rw [List.set_append_right _ _ (by rw [hR.len, Nat.succ_mul]; omega), hR.len, show (k + 1) * R.sz + f - R.sz = k * R.sz + f by rw [Nat.succ_mul]; omega]
/-- a field of an element of a list of the walk's own is stored -/
theorem Env.setF (hR : R.Ok) (K : Env w W T) (i : Nat) {g n c : Nat} {L : List α} (h : T[i]? = some (lst R (slv g n c) n L)) {k f : Nat} {e : α} (e' : α) (hk : L[k]? = some e) (hf : f < R.sz) {u : Value} (hc : R.c e' = (R.c e).set f u) :
    Env w (W.setCell ⟨g, k * R.sz + f, none⟩ u) (T.set i (lst R (slv g n c) n (L.set k e'))) ∧ ∀ F, Keep w F W T (W.setCell ⟨g, k * R.sz + f, none⟩ u) (T.set i (lst R (slv g n c) n (L.set k e'))) := by
  have hown := K.own i h
  have h2 : (W.setCell ⟨g, k * R.sz + f, none⟩ u).ownsRow w.heap.size R.et R.sz (slv g n c) n (R.all (L.set k e')) := by
    rw [← all_set_field hR hk hf hc]
    exact e_owns_cell hown _ u
  obtain ⟨cur, hg⟩ : ∃ cur, W.heap[g]? = some (.cells cur R.et (0, 0)) := by
    rcases hown.2 with ⟨h9, _⟩ | ⟨g', cap, cur, hv, _, hg, _⟩
    · cases h9
    · cases hv
      exact ⟨cur, hg⟩
  have hgr : W.grownBy (W.setCell ⟨g, k * R.sz + f, none⟩ u) (some g) := by
    rw [setCell_eq_setRow W g _ cur _ _ u hg]
    exact ⟨rfl, rfl, rfl, by simp, fun j _ hj => setRow_other W g j _ (fun e => hj (by rw [e]))⟩
  exact ⟨K.set hgr i h (fun g' e => e) h2 (fun g' e => .inl e), fun _ => K.keep_set hgr i h (fun g' e => e) (fun g' e => .inl e)⟩
theorem Env.val (_ : R.Ok) (K : Env w W T) (i : Nat) {v : Value} {n : Nat} {L : List α} (h : T[i]? = some (lst R v n L)) (hn : 0 < n) : ∃ g c, v = slv g n c := by
  obtain ⟨g, c, e, _⟩ := owns_some (R := R) (K.own i h) hn
  exact ⟨g, c, e⟩
theorem Env.any (hR : R.Ok) (K : Env w W T) (i : Nat) {v : Value} {n : Nat} {L : List α} (h : T[i]? = some (lst R v n L)) : ∃ a c, v = .slice a n c ∧ TList R W (fun b => w.heap.size ≤ b) a n c L :=
  owns_list hR (K.own i h) (fun b hb => ((K.own i h).lt b hb).1)
end
end Go.Proofs.YtnmhnjjehglcfaaGreat.Env
namespace Go.Proofs.YtnmhnjjehglcfaaGreat.Rws
open Go.RowKit Plan Ents
/-- a list from an index on, as Go cuts it -/
theorem rest_list {α : Type} {R : Row α} (hR : R.Ok) {w : World} {F : Nat → Prop} {g n c k : Nat} {L : List α} (h : TList R w F (some ⟨g, 0, none⟩) n c L) (hk : k ≤ n) (hn : 0 < n) : TList R w F (if c = k then some ⟨g, 0, none⟩ else some ⟨g, k * R.sz, none⟩) (n - k) (c - k) (L.drop k) := by
  have hb := h.back hR k hk hn
  have hcp := h.cap
  by_cases hc : c = k
  · rw [if_pos hc]
    have hl := h.length
    obtain ⟨y, hy, h5, h6, _⟩ := h.some' hn
    obtain rfl := Option.some.inj hy
    have h0 : L.drop k = [] := List.length_eq_zero_iff.1 (by rw [List.length_drop]; omega)
    rw [h0]
    refine .inr ⟨_, rfl, by omega, by omega, by simp; omega, h5, h6, fun j u hu => ?_⟩
    simp [Row.all] at hu
  · rw [if_neg hc]
    rw [Addr.add_lit, Nat.zero_add] at hb
    exact hb
end Go.Proofs.YtnmhnjjehglcfaaGreat.Rws

/- Sets of small numbers as numbers: what shifts and bit operations give. -/
namespace Go.Proofs.YtnmhnjjehglcfaaGreat.Bits
open Go.RowKit Plan
/-- the bits of a that b has not -/
def andN (a b : Nat) : Nat := (BitVec.ofNat 64 a &&& ~~~ BitVec.ofNat 64 b).toNat
theorem wrap_nat {n : Nat} (h : n < 2 ^ 63) : IntKind.wrap .i64 (n : Int) = (n : Int) := IntWalk.i64_in _ (by omega)
theorem andN_le {a b : Nat} (ha : a < 2 ^ 62) : andN a b ≤ a := by
  unfold andN
  rw [BitVec.toNat_and, BitVec.toNat_ofNat, Nat.mod_eq_of_lt (by omega)]
  exact Nat.and_le_left
theorem andN_bit {a b : Nat} (ha : a < 2 ^ 62) (_ : b < 2 ^ 62) (i : Nat) : (andN a b).testBit i = (a.testBit i && !b.testBit i) := by
  by_cases hi : i < 64
  · unfold andN
    rw [← BitVec.getLsbD, BitVec.getLsbD_and, BitVec.getLsbD_not, BitVec.getLsbD_ofNat, BitVec.getLsbD_ofNat]
    simp [hi]
  · have h1 : (andN a b).testBit i = false := Nat.testBit_lt_two_pow (Nat.lt_of_le_of_lt (andN_le ha) (Nat.lt_of_lt_of_le ha (Nat.pow_le_pow_right (by decide) (by omega))))
    have h2 : a.testBit i = false := Nat.testBit_lt_two_pow (Nat.lt_of_lt_of_le ha (Nat.pow_le_pow_right (by decide) (by omega)))
    rw [h1, h2]; rfl
/-- the same as the walk writes them -/
theorem pow_wrap {i : Nat} (hi : i ≤ 60) : wrap64 (2 ^ i) = ((2 ^ i : Nat) : Int) := by
  have h3 : 2 ^ i < 2 ^ 61 := Nat.pow_lt_pow_right (by decide) (by omega)
  rw [show (2 : Int) ^ i = ((2 ^ i : Nat) : Int) by simp]
  generalize 2 ^ i = p at *
  unfold wrap64
  omega
theorem bits_or {a b : Nat} (ha : a < 2 ^ 62) (hb : b < 2 ^ 62) : bits .or .i64 (a : Int) (b : Int) = ((a ||| b : Nat) : Int) := by
  have h1 : a ||| b < 2 ^ 62 := Nat.or_lt_two_pow ha hb
  show IntKind.wrap .i64 _ = _
  rw [show (BitVec.ofInt (IntKind.bits .i64) (a : Int) ||| BitVec.ofInt (IntKind.bits .i64) (b : Int)).toNat = a ||| b by
    rw [BitVec.toNat_or, BitVec.toNat_ofInt, BitVec.toNat_ofInt]
    show (((a : Int) % 2 ^ 64).toNat) ||| (((b : Int) % 2 ^ 64).toNat) = _
    congr 1 <;> omega, wrap_nat (by omega)]
theorem bits_and {a b : Nat} (ha : a < 2 ^ 62) (_ : b < 2 ^ 62) : bits .and .i64 (a : Int) (b : Int) = ((a &&& b : Nat) : Int) := by
  have h1 : a &&& b ≤ a := Nat.and_le_left
  show IntKind.wrap .i64 _ = _
  rw [show (BitVec.ofInt (IntKind.bits .i64) (a : Int) &&& BitVec.ofInt (IntKind.bits .i64) (b : Int)).toNat = a &&& b by
    rw [BitVec.toNat_and, BitVec.toNat_ofInt, BitVec.toNat_ofInt]
    show (((a : Int) % 2 ^ 64).toNat) &&& (((b : Int) % 2 ^ 64).toNat) = _
    congr 1 <;> omega, wrap_nat (by omega)]
theorem bits_andNot {a b : Nat} (ha : a < 2 ^ 62) (_ : b < 2 ^ 62) : bits .andNot .i64 (a : Int) (b : Int) = ((andN a b : Nat) : Int) := by
  have h1 := andN_le (b := b) ha
  show IntKind.wrap .i64 _ = _
  rw [show (BitVec.ofInt (IntKind.bits .i64) (a : Int) &&& ~~~ BitVec.ofInt (IntKind.bits .i64) (b : Int)).toNat = andN a b by
    unfold andN
    rw [BitVec.ofInt_natCast, BitVec.ofInt_natCast]
    rfl, wrap_nat (by omega)]
theorem bits_zero {a : Nat} : a = 0 ↔ ∀ i, a.testBit i = false := by
  constructor
  · rintro rfl i; exact Nat.zero_testBit i
  · intro h
    exact Nat.eq_of_testBit_eq fun i => by rw [h i, Nat.zero_testBit]
end Go.Proofs.YtnmhnjjehglcfaaGreat.Bits

/- A whole element is stored into a list of the walk's own; a thing of a walk is left; a list of n results, all zero. -/
namespace Go.Proofs.YtnmhnjjehglcfaaGreat.Env
open Go.RowKit Plan Ents Rws
section
variable {w W W' : World} {T : List Thing} {α : Type} {R : Row α}
theorem grown_cells (g o : Nat) (vs : List Value) (W : World) : W.grownBy (W.setCells g o vs) (some g) := by
  have h1 := below_setCells (B := 0) (g := g) (w0 := W) (Nat.zero_le _) vs o (Below.refl 0 W)
  have h2 := Same.cells (F := fun b => b ≠ g) (g := g) (fun h => h rfl) vs o W
  exact ⟨h1.os, h1.tape, h1.output, h1.size, fun b hb hj => h2.2 b (fun e => hj (by rw [e])) hb⟩
theorem Env.setE (hR : R.Ok) (K : Env w W T) (i : Nat) {g n c : Nat} {L : List α} (h : T[i]? = some (lst R (slv g n c) n L)) {k : Nat} (hk : k < n) (e : α) :
    Env w (W.setCells g (k * R.sz) (R.c e)) (T.set i (lst R (slv g n c) n (L.set k e))) ∧ ∀ F, Keep w F W T (W.setCells g (k * R.sz) (R.c e)) (T.set i (lst R (slv g n c) n (L.set k e))) := by
  have h2 := own_set hR (K.own i h) hk e
  have hgr := grown_cells g (k * R.sz) (R.c e) W
  exact ⟨K.set hgr i h (fun g' e => e) h2 (fun g' e => .inl e), fun _ => K.keep_set hgr i h (fun g' e => e) (fun g' e => .inl e)⟩
theorem Env.tail {x : Thing} (K : Env w W (x :: T)) : Env w W T :=
  ⟨fun y hy => K.hold y (List.mem_cons_of_mem _ hy), fun i j y z g hi hj hy hz => by have := K.nd (i + 1) (j + 1) y z g (by simpa using hi) (by simpa using hj) hy hz; omega, K.hb⟩
/-- what make lays: n elements, all zero -/
theorem made_cells (hR : R.Ok) (e : α) (n : Nat) : madeCells (R.c e).toArray (n * R.sz) = (R.all (List.replicate n e)).toArray := by
  have hp := hR.pos
  have hl := hR.len e
  have hal : (R.all (List.replicate n e)).length = n * R.sz := by rw [all_length hR, List.length_replicate]
  apply Array.ext'
  apply List.ext_getElem?
  intro i
  by_cases hi : i < n * R.sz
  · have hq : i / R.sz < n := (Nat.div_lt_iff_lt_mul hp).2 hi
    have hr : i % R.sz < R.sz := Nat.mod_lt _ hp
    have h2 : (R.all (List.replicate n e))[i]? = (R.c e)[i % R.sz]? := by
      have := all_get hR (L := List.replicate n e) (i := i / R.sz) (e := e) (by rw [List.getElem?_replicate, if_pos hq]) (i % R.sz) hr
      rw [← this, Nat.div_add_mod']
    rw [List.toList_toArray, h2]
    simp only [madeCells, Array.toList_map, List.getElem?_map, Array.getElem?_toList, Array.getElem?_range, hi, hl, List.size_toArray]
    rw [List.getElem?_eq_getElem (by omega : i % R.sz < (R.c e).length)]
    simp [hl, hr]
  · rw [List.getElem?_eq_none (by simp [madeCells]; omega), List.getElem?_eq_none (by simp [hal]; omega)]
theorem run_make_rows (hR : R.Ok) (e : α) (he : R.zero.cells = (R.c e).toArray) (ty : TypeId) (hty : ty = R.st) (kl kc : IntKind) (n : Nat) (hbytes : R.wide * n ≤ 281474976710656) (h63 : n ≤ 9223372036854775807) (w : World) :
    (Instr.makeSlice ty (.int kl (n : Int)) (.int kc (n : Int))).run Tryz.prog w = .ok (slv w.heap.size n n) (w.alloc (.cells (R.all (List.replicate n e)).toArray R.et)) := by
  subst hty
  obtain ⟨i, hi, hzz⟩ := Option.map_eq_some_iff.1 hR.info
  simp only [Prod.mk.injEq] at hzz
  obtain ⟨hz, hs, hb⟩ := hzz
  have hb' : (i.bytes : Int) * (n : Int) ≤ 281474976710656 := by
    have h : ((i.bytes * n : Nat) : Int) ≤ 281474976710656 := by rw [hb]; omega
    rwa [Int.natCast_mul] at h
  have hr := run_make (P := Tryz.prog) w R.st R.et i R.zero hR.und hi hz kl kc n n (by omega) (Int.le_refl _) hb' (by omega)
  simp only [Int.toNat_natCast, hs, he, made_cells hR] at hr
  exact hr
theorem Env.mades (hR : R.Ok) (K : Env w W T) (e : α) (n : Nat) (hn : n ≤ maxLen) : Env w (W.alloc (.cells (R.all (List.replicate n e)).toArray R.et)) (lst R (slv W.heap.size n n) n (List.replicate n e) :: T) :=
  K.made e n hn rfl (by rw [List.size_toArray, all_length hR, List.length_replicate])
/-- the index of a list of the walk's own and the store of a whole element there, as one arm -/
theorem Env.idx_store (hR : R.Ok) {ops : Array Oper} {rest : List Oper} {a : Act} {Q : Exit → Act → World → Prop} (d : Tmp) (s x y : Operand) {st et t1 t' : TypeId} {pos1 pos : String} {after1 after : Array Edge} (hst : st = R.st) (het : et = R.et)
    (K : Env w W T) (i : Nat) {g n c : Nat} {L : List α} (h : T[i]? = some (lst R (slv g n c) n L)) {k : Nat} (hk : k < n) (e : α) (o : Nat) (ho : o = k * R.sz)
    (hv : (execOp a.eval ⟨some d, .indexAddr st s x, t1, pos1, after1, none⟩).run Tryz.prog W = .ok (.value (.pointer (some ⟨g, o, none⟩))) W)
    (hx : (a.put (some d) (.pointer (some ⟨g, o, none⟩))).eval (.tmp d) = .pointer (some ⟨g, o, none⟩)) (hy : (a.put (some d) (.pointer (some ⟨g, o, none⟩))).eval y = .agg (R.c e).toArray)
    (hh : ∀ W', Env w W' (T.set i (lst R (slv g n c) n (L.set k e))) → (∀ F, Keep w F W T W' (T.set i (lst R (slv g n c) n (L.set k e)))) → wpList Tryz.prog ops Q rest ((a.put (some d) (.pointer (some ⟨g, o, none⟩))).put none undef) W') :
    wpList Tryz.prog ops Q (⟨some d, .indexAddr st s x, t1, pos1, after1, none⟩ :: ⟨none, .store et (.tmp d) y, t', pos, after, none⟩ :: rest) a W := by
  subst hst het ho
  refine idx_store_row hR d s x y g (k * R.sz) e hv hx hy (own_there hR (K.own i h) hk) fun W' hW => ?_
  subst hW
  exact hh _ (K.setE hR i h hk e).1 (K.setE hR i h hk e).2
end
end Go.Proofs.YtnmhnjjehglcfaaGreat.Env
