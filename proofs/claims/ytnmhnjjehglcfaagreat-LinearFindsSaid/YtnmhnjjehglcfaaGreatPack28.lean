/- Texts that belong together, part 28. -/
import Derived.Test.YtnmhnjjehglcfaaGreatPack27

/- What the search does to the set of states it has seen and to the ends it has found. Plain mathematics. -/
namespace Go.Proofs.YtnmhnjjehglcfaaGreat.LinMath
open HisMath ModMath Bits
theorem and_bit {D i : Nat} : (D &&& 2 ^ i = 0) ↔ D.testBit i = false := by
  rw [bits_zero]
  constructor
  · intro h
    have := h i
    rw [Nat.testBit_and, Nat.testBit_two_pow_self, Bool.and_true] at this
    exact this
  · intro h j
    rw [Nat.testBit_and, Nat.testBit_two_pow]
    by_cases hij : i = j
    · subst hij; rw [h]; rfl
    · rw [decide_eq_false hij, Bool.and_false]
theorem mustN_bit (O : List Ev) (k : Nat) : ∀ n, (mustN O n).testBit k = true ↔ k < n ∧ ∃ x, O[k]? = some x ∧ mustP x = true
  | 0 => by simp [mustN]
  | n + 1 => by
    have ih := mustN_bit O k n
    unfold mustN
    split
    · rename_i x hx
      split
      · rename_i hc
        rw [bit_or, Bool.or_eq_true, ih, decide_eq_true_eq]
        have hm : mustP x = true := by
          have h1 := hc.1
          unfold skipP at h1
          unfold mustP
          rw [hc.2] at h1 ⊢
          simpa using h1
        constructor
        · rintro (⟨h1, h2⟩ | h1)
          · exact ⟨by omega, h2⟩
          · subst h1; exact ⟨by omega, x, hx, hm⟩
        · rintro ⟨h1, h2⟩
          by_cases hk : n = k
          · exact .inr hk
          · exact .inl ⟨by omega, h2⟩
      · rename_i hc
        rw [ih]
        constructor
        · rintro ⟨h1, h2⟩; exact ⟨by omega, h2⟩
        · rintro ⟨h1, y, h2, h3⟩
          by_cases hk : n = k
          · exfalso
            subst hk
            rw [hx] at h2
            obtain rfl := Option.some.inj h2
            unfold mustP at h3
            rw [Bool.and_eq_true, decide_eq_true_eq] at h3
            exact hc ⟨by simp [skipP, h3.2], h3.1⟩
          · exact ⟨by omega, y, h2, h3⟩
    · rename_i hx
      rw [ih]
      constructor
      · rintro ⟨h1, h2⟩; exact ⟨by omega, h2⟩
      · rintro ⟨h1, y, h2, h3⟩
        by_cases hk : n = k
        · subst hk; rw [hx] at h2; cases h2
        · exact ⟨by omega, y, h2, h3⟩
theorem skipN_bit (O : List Ev) (k : Nat) : ∀ n, (skipN O n).testBit k = true ↔ k < n ∧ ∃ x, O[k]? = some x ∧ skipP x = true
  | 0 => by simp [skipN]
  | n + 1 => by
    have ih := skipN_bit O k n
    unfold skipN
    split
    · rename_i x hx
      split
      · rename_i hc
        rw [bit_or, Bool.or_eq_true, ih, decide_eq_true_eq]
        constructor
        · rintro (⟨h1, h2⟩ | h1)
          · exact ⟨by omega, h2⟩
          · subst h1; exact ⟨by omega, x, hx, hc⟩
        · rintro ⟨h1, h2⟩
          by_cases hk : n = k
          · exact .inr hk
          · exact .inl ⟨by omega, h2⟩
      · rename_i hc
        rw [ih]
        constructor
        · rintro ⟨h1, h2⟩; exact ⟨by omega, h2⟩
        · rintro ⟨h1, y, h2, h3⟩
          by_cases hk : n = k
          · exfalso
            subst hk
            rw [hx] at h2
            obtain rfl := Option.some.inj h2
            exact hc h3
          · exact ⟨by omega, y, h2, h3⟩
    · rename_i hx
      rw [ih]
      constructor
      · rintro ⟨h1, h2⟩; exact ⟨by omega, h2⟩
      · rintro ⟨h1, y, h2, h3⟩
        by_cases hk : n = k
        · subst hk; rw [hx] at h2; cases h2
        · exact ⟨by omega, y, h2, h3⟩
theorem setN_bit (L O : List Ev) (t : Int) (k : Nat) : ∀ n, (setN L O t n).testBit k = true ↔ k < n ∧ ∃ y, O[k]? = some y ∧ beforeB L y.serial t = true
  | 0 => by simp [setN]
  | n + 1 => by
    have ih := setN_bit L O t k n
    unfold setN
    split
    · rename_i x hx
      split
      · rename_i hc
        rw [bit_or, Bool.or_eq_true, ih, decide_eq_true_eq]
        constructor
        · rintro (⟨h1, h2⟩ | h1)
          · exact ⟨by omega, h2⟩
          · subst h1; exact ⟨by omega, x, hx, hc⟩
        · rintro ⟨h1, h2⟩
          by_cases hk : n = k
          · exact .inr hk
          · exact .inl ⟨by omega, h2⟩
      · rename_i hc
        rw [ih]
        constructor
        · rintro ⟨h1, h2⟩; exact ⟨by omega, h2⟩
        · rintro ⟨h1, y, h2, h3⟩
          by_cases hk : n = k
          · exfalso
            subst hk
            rw [hx] at h2
            obtain rfl := Option.some.inj h2
            exact hc h3
          · exact ⟨by omega, y, h2, h3⟩
    · rename_i hx
      rw [ih]
      constructor
      · rintro ⟨h1, h2⟩; exact ⟨by omega, h2⟩
      · rintro ⟨h1, y, h2, h3⟩
        by_cases hk : n = k
        · subst hk; rw [hx] at h2; cases h2
        · exact ⟨by omega, y, h2, h3⟩
theorem goal_iff {O : List Ev} {D : Nat} (hn : O.length ≤ 60) (hD : D < 2 ^ 62) : andN (mustN O O.length) D = 0 ↔ goalP O D := by
  have hM := pow_lt62 hn (mustN_lt O O.length)
  rw [bits_zero]
  constructor
  · intro h k y hy hmu
    have := h k
    rw [andN_bit hM hD, (mustN_bit O k O.length).2 ⟨(List.getElem?_eq_some_iff.1 hy).1, y, hy, hmu⟩] at this
    simpa using this
  · intro h k
    rw [andN_bit hM hD]
    cases hb : (mustN O O.length).testBit k with
    | false => rfl
    | true =>
      obtain ⟨_, y, hy, hmu⟩ := (mustN_bit O k O.length).1 hb
      rw [h k y hy hmu]; rfl
theorem can_iff {L O : List Ev} {D i : Nat} {x : Ev} (hn : O.length ≤ 60) (hD : D < 2 ^ 62) (hx : O[i]? = some x) :
    canP L O D i x ↔ D &&& 2 ^ i = 0 ∧ skipN O O.length &&& 2 ^ i = 0 ∧ andN (setN L O x.serial O.length) D &&& mustN O O.length = 0 := by
  have hF := pow_lt62 hn (setN_lt L O x.serial O.length)
  have hi := (List.getElem?_eq_some_iff.1 hx).1
  rw [and_bit, and_bit, bits_zero]
  unfold canP
  refine and_congr Iff.rfl (and_congr ?_ ?_)
  · constructor
    · intro h
      cases hb : (skipN O O.length).testBit i with
      | false => rfl
      | true =>
        obtain ⟨_, y, hy, hs⟩ := (skipN_bit O i O.length).1 hb
        rw [hx] at hy
        obtain rfl := Option.some.inj hy
        rw [h] at hs; cases hs
    · intro h
      cases hs : skipP x with
      | false => rfl
      | true => rw [(skipN_bit O i O.length).2 ⟨hi, x, hx, hs⟩] at h; cases h
  · constructor
    · intro h k
      rw [Nat.testBit_and, andN_bit hF hD]
      cases hf : (setN L O x.serial O.length).testBit k with
      | false => rfl
      | true =>
        cases hm : (mustN O O.length).testBit k with
        | false => simp
        | true =>
          obtain ⟨_, y, hy, hb⟩ := (setN_bit L O x.serial k O.length).1 hf
          obtain ⟨_, z, hz, hmu⟩ := (mustN_bit O k O.length).1 hm
          rw [hy] at hz
          obtain rfl := Option.some.inj hz
          rw [h k y hy hmu hb]; rfl
    · intro h k y hy hmu hb
      have hk := (List.getElem?_eq_some_iff.1 hy).1
      have := h k
      rw [Nat.testBit_and, andN_bit hF hD, (setN_bit L O x.serial k O.length).2 ⟨hk, y, hy, hb⟩, (mustN_bit O k O.length).2 ⟨hk, y, hy, hmu⟩] at this
      simpa using this
/-- what the block can be at the end, from a state on -/
def Ends (L O : List Ev) (D : Nat) (v : ByteArray) (u : ByteArray) : Prop := ∃ l D', Path L O D v l D' u ∧ goalP O D'
theorem ends_step {L O : List Ev} {D : Nat} {v u : ByteArray} : Ends L O D v u ↔ (goalP O D ∧ u = v) ∨ ∃ i x v', O[i]? = some x ∧ canP L O D i x ∧ nextV x v = some v' ∧ Ends L O (D ||| 2 ^ i) v' u := by
  constructor
  · rintro ⟨l, D', h, hg⟩
    cases h with
    | nil => exact .inl ⟨hg, rfl⟩
    | @cons _ _ i x v' l D' _ hx hc hn h => exact .inr ⟨i, x, v', hx, hc, hn, l, D', h, hg⟩
  · rintro (⟨hg, rfl⟩ | ⟨i, x, v', hx, hc, hn, l, D', h, hg⟩)
    · exact ⟨[], D, .nil _ _, hg⟩
    · exact ⟨_, D', .cons hx hc hn h, hg⟩
def sub (D D' : Nat) : Prop := ∀ k, D.testBit k = true → D'.testBit k = true
theorem sub_refl (D : Nat) : sub D D := fun _ h => h
theorem sub_or {D D' i : Nat} (h : sub (D ||| 2 ^ i) D') : sub D D' ∧ D'.testBit i = true :=
  ⟨fun k hk => h k (by rw [bit_or, hk]; rfl), h i (by rw [bit_or]; simp)⟩
/-- what was seen from a state on has no end but the known ones -/
def Known (L O : List Ev) (D : Nat) (Sn : List (Int × ByteArray)) (E : ByteArray → Prop) : Prop :=
  ∀ (D' : Nat) (v' : ByteArray), ((D' : Int), v') ∈ Sn → sub D D' → ∀ u, Ends L O D' v' u → E u
structure VPostM (L O : List Ev) (D : Nat) (v : ByteArray) (Sn : List (Int × ByteArray)) (E : ByteArray → Prop) (Sn' : List (Int × ByteArray)) (E' : ByteArray → Prop) : Prop where
  old : ∀ p ∈ Sn, p ∈ Sn'
  new : ∀ p ∈ Sn', p ∈ Sn ∨ ∃ D' : Nat, p.1 = (D' : Int) ∧ sub D D' ∧ ∀ u, Ends L O D' p.2 u → E' u
  mono : ∀ u, E u → E' u
  only : ∀ u, E' u → E u ∨ Ends L O D v u
  all : ∀ u, Ends L O D v u → E' u
structure VStep (L O : List Ev) (D : Nat) (v : ByteArray) (Sn : List (Int × ByteArray)) (E : ByteArray → Prop) (i : Nat) (Sn' : List (Int × ByteArray)) (E' : ByteArray → Prop) : Prop where
  old : ∀ p ∈ Sn, p ∈ Sn'
  new : ∀ p ∈ Sn', p ∈ Sn ∨ p = ((D : Int), v) ∨ ∃ D' : Nat, p.1 = (D' : Int) ∧ sub D D' ∧ ∀ u, Ends L O D' p.2 u → E' u
  mono : ∀ u, E u → E' u
  only : ∀ u, E' u → E u ∨ Ends L O D v u
  goal : goalP O D → E' v
  upto : ∀ j x v', j < i → O[j]? = some x → canP L O D j x → nextV x v = some v' → ∀ u, Ends L O (D ||| 2 ^ j) v' u → E' u
variable {L O : List Ev} {D : Nat} {v : ByteArray} {Sn Sn' Sn2 : List (Int × ByteArray)} {E E' E2 : ByteArray → Prop} {i : Nat}
/-- a state that was seen -/
theorem visit_seen (hk : Known L O D Sn E) (h : ((D : Int), v) ∈ Sn) : VPostM L O D v Sn E Sn E :=
  ⟨fun _ h => h, fun _ h => .inl h, fun _ h => h, fun _ h => .inl h, fun u hu => hk D v h (sub_refl D) u hu⟩
theorem visit_start (hm : ∀ u, E u → E' u) (ho : ∀ u, E' u → E u ∨ (goalP O D ∧ u = v)) (hg : goalP O D → E' v) : VStep L O D v Sn E 0 (((D : Int), v) :: Sn) E' :=
  ⟨fun _ h => List.mem_cons_of_mem _ h, fun p h => by
    rcases List.mem_cons.1 h with h | h
    · exact .inr (.inl h)
    · exact .inl h, hm, fun u hu => (ho u hu).imp id fun h => ends_step.2 (.inl h), hg, fun j _ _ hj => absurd hj (Nat.not_lt_zero _)⟩
theorem VStep.skip (h : VStep L O D v Sn E i Sn' E') {x : Ev} (hx : O[i]? = some x) (hn : canP L O D i x → nextV x v = none) : VStep L O D v Sn E (i + 1) Sn' E' :=
  ⟨h.old, h.new, h.mono, h.only, h.goal, fun j y v' hj hy hc hv => by
    by_cases hji : j < i
    · exact h.upto j y v' hji hy hc hv
    · obtain rfl : j = i := by omega
      rw [hx] at hy
      obtain rfl := Option.some.inj hy
      rw [hn hc] at hv; cases hv⟩
/-- what the search knows before it goes on -/
theorem VStep.known (h : VStep L O D v Sn E i Sn' E') (hk : Known L O D Sn E) (hb : D.testBit i = false) : Known L O (D ||| 2 ^ i) Sn' E' := fun D' v' hm hs u hu => by
  obtain ⟨s1, s2⟩ := sub_or hs
  rcases h.new _ hm with h1 | h1 | ⟨D2, h1, _, h3⟩
  · exact h.mono u (hk D' v' h1 s1 u hu)
  · exfalso
    have : (D' : Int) = (D : Int) := congrArg Prod.fst h1
    have : D' = D := by omega
    subst this
    rw [hb] at s2; cases s2
  · have h1' : (D' : Int) = (D2 : Int) := h1
    obtain rfl : D' = D2 := by omega
    exact h3 u hu
theorem VStep.call (h : VStep L O D v Sn E i Sn' E') {x : Ev} {v' : ByteArray} (hx : O[i]? = some x) (hc : canP L O D i x) (hv : nextV x v = some v') (q : VPostM L O (D ||| 2 ^ i) v' Sn' E' Sn2 E2) : VStep L O D v Sn E (i + 1) Sn2 E2 := by
  refine ⟨fun p hp => q.old p (h.old p hp), fun p hp => ?_, fun u hu => q.mono u (h.mono u hu), fun u hu => ?_, fun hg => q.mono _ (h.goal hg), fun j y v2 hj hy hc2 hv2 u hu => ?_⟩
  · rcases q.new p hp with h1 | ⟨D', h1, h2, h3⟩
    · rcases h.new p h1 with h4 | h4 | ⟨D', h4, h5, h6⟩
      · exact .inl h4
      · exact .inr (.inl h4)
      · exact .inr (.inr ⟨D', h4, h5, fun u hu => q.mono u (h6 u hu)⟩)
    · exact .inr (.inr ⟨D', h1, (sub_or h2).1, h3⟩)
  · rcases q.only u hu with h1 | h1
    · exact h.only u h1
    · exact .inr (ends_step.2 (.inr ⟨i, x, v', hx, hc, hv, h1⟩))
  · by_cases hji : j < i
    · exact q.mono u (h.upto j y v2 hji hy hc2 hv2 u hu)
    · obtain rfl : j = i := by omega
      rw [hx] at hy
      obtain rfl := Option.some.inj hy
      rw [hv] at hv2
      obtain rfl := Option.some.inj hv2
      exact q.all u hu
theorem VStep.done (h : VStep L O D v Sn E i Sn' E') (hi : i = O.length) : VPostM L O D v Sn E Sn' E' := by
  have hall : ∀ u, Ends L O D v u → E' u := fun u hu => by
    rcases ends_step.1 hu with ⟨h1, h2⟩ | ⟨j, x, v', hx, hc, hv, he⟩
    · rw [h2]; exact h.goal h1
    · exact h.upto j x v' (by rw [hi]; exact (List.getElem?_eq_some_iff.1 hx).1) hx hc hv u he
  refine ⟨h.old, fun p hp => ?_, h.mono, h.only, hall⟩
  rcases h.new p hp with h1 | h1 | h1
  · exact .inl h1
  · exact .inr ⟨D, by rw [h1], sub_refl D, by rw [h1]; exact hall⟩
  · exact .inr h1
end Go.Proofs.YtnmhnjjehglcfaaGreat.LinMath

/- The walk of the document's put: an ascending list of strings with a further one. -/
namespace Go.Proofs.YtnmhnjjehglcfaaGreat.LinMath
open HisMath ModMath
def lessB (a b : ByteArray) : Bool := Op.bytesLess a.toList b.toList
def putK (L : List ByteArray) (v : ByteArray) : Nat → List ByteArray
  | 0 => v :: L
  | k + 1 => match L[k]? with
    | some s => if lessB s v then L.take (k + 1) ++ v :: L.drop (k + 1) else if s = v then L else putK L v k
    | none => L
def putE (L : List ByteArray) (v : ByteArray) : List ByteArray := putK L v L.length
theorem putK_less {L : List ByteArray} {v s : ByteArray} {i k : Nat} (hk : i + 1 = k) (hs : L[i]? = some s) (h : lessB s v = true) : putK L v k = L.take k ++ v :: L.drop k := by
  subst hk; simp [putK, hs, h]
theorem putK_same {L : List ByteArray} {v s : ByteArray} {i k : Nat} (hk : i + 1 = k) (hs : L[i]? = some s) (h : lessB s v = false) (he : s = v) : putK L v k = L := by
  subst hk; subst he; simp [putK, hs, h]
theorem putK_next {L : List ByteArray} {v s : ByteArray} {i k : Nat} (hk : i + 1 = k) (hs : L[i]? = some s) (h : lessB s v = false) (he : ¬ s = v) : putK L v k = putK L v i := by
  subst hk; simp [putK, hs, h, he]
end Go.Proofs.YtnmhnjjehglcfaaGreat.LinMath
namespace Go.Proofs.YtnmhnjjehglcfaaGreat.Ents
open Go.RowKit Plan HisMath LinMath ModMath Rws Env LayMath
theorem rest_any {α : Type} {R : Row α} (hR : R.Ok) {w : World} {F : Nat → Prop} {x : Addr} {n c k : Nat} {L : List α} (h : TList R w F (some x) n c L) (hk : k ≤ n) : TList R w F (if c = k then some x else some (x.add (k * R.sz))) (n - k) (c - k) (L.drop k) := by
  have hcp := h.cap
  have hl := h.length
  have hh := h
  rcases hh with ⟨_, rfl, rfl, rfl⟩ | ⟨y, h1, h2, h3, h4, h5, h6, h7⟩
  · obtain rfl : k = 0 := by omega
    exact .inl ⟨trivial, rfl, rfl, by simp⟩
  · obtain rfl := Option.some.inj h1
    by_cases hc : c = k
    · rw [if_pos hc]
      have h0 : L.drop k = [] := List.length_eq_zero_iff.1 (by rw [List.length_drop]; omega)
      rw [h0]
      refine .inr ⟨_, rfl, by omega, by omega, by simp; omega, h5, h6, fun j u hu => ?_⟩
      simp [Row.all] at hu
    · rw [if_neg hc]
      by_cases hn : 0 < n
      · exact h.back hR k hk hn
      · have h0 : L.drop k = [] := List.length_eq_zero_iff.1 (by rw [List.length_drop]; omega)
        rw [h0]
        refine .inr ⟨_, rfl, by omega, by omega, by simp; omega, by rw [ent_add_block]; exact h5, by rw [ent_add_block]; exact h6, fun j u hu => ?_⟩
        simp [Row.all] at hu
theorem str_ge {s v : ByteArray} {b : Bool} (h : Op.bytesLess s.toList v.toList = b) (W : World) : (Go.binOp .geq 9 (Value.string s) (Value.string v)).run Tryz.prog W = .ok (.bool (!b)) W := by
  subst h
  simp [Go.binOp, Op.stringOp]
set_option maxHeartbeats 8000000 in
set_option maxRecDepth 20000 in
theorem refPutS_any (F : Nat → Prop) (L : List ByteArray) (v : ByteArray) (a : Option Addr) (n c : Nat) (w : World) (hl : SList w F a n c L) (hm : n ≤ 400000) :
    Calls Tryz.prog 82 #[.slice a n c, .string v] w (SPost w F (putE L v)) := by
  have hlen := hl.length
  obtain ⟨hcp, hcm⟩ := hl.cap
  unfold maxLen at hcm
  have HAT := Lib.hid (fun W (h : Below w.heap.size w W) i (hi : i < n) => str_at (hl.same h) i hi)
  have HL := Lib.hid (fun W (h : Below w.heap.size w W) => hl.same h)
  have HF := Lib.hid (fun W (h : Below w.heap.size w W) => (hl.on (⟨h.size, fun b _ hlt => h.block b hlt⟩ : Same F w W)).mono (fun b _ hb => (show F b ∨ w.heap.size ≤ b from .inl hb)))
  have HR := Lib.hid (show putK L v n = putE L v by unfold putE; rw [hlen])
  generalize putE L v = R at *
  have K := Env.start w
  unfold SPost
  clear hl
  go_enter Tryz.func82, Tryz.ntmps82
  go_wp2_with fail
  go_loopw [5] (fun x wr => ∃ k : Nat, x = .int .i64 (k : Int) ∧ k ≤ n ∧ RowKit.Hid (putK L v k = R) ∧ Env w wr []) (fun x _ => (intOf x).toNat)
  case atStart => exact ⟨n, rfl, by omega, HR, K⟩
  case round =>
    clear K HR
    obtain ⟨k, rfl, hk, HR, K⟩ := hrel
    by_cases h0 : k = 0
    · subst h0
      have e1 : decide ((0 : Int) < ((0 : Nat) : Int)) = false := rfl
      have hR : v :: L = R := HR.out
      cases a with
      | none =>
        have hnn : n = 0 ∧ c = 0 ∧ L = [] := (HL.out w (Below.refl _ _)).none
        obtain ⟨rfl, rfl, rfl⟩ := hnn
        have KA := K.empty SR
        have l1 := (HL.out _ KA.hb).front srOk 0 hk
        go_wp2_with (first
          | (refine KA.apps_list srOk rfl (.tmp 30) (.tmp 33) rfl 0 rfl rfl rfl l1 (by omega) ?_; intro gA cA w1 K1 _; simp only [List.set, Nat.zero_add, List.nil_append] at K1; simp only [Nat.zero_add, Act.put, List.setIfInBounds_toArray, List.set_cons_zero, List.set_cons_succ]; clear l1 KA; have KB := K1.al (.cells #[.string v] 9); clear K1)
          | (refine KB.apps_one srOk rfl (.tmp 35) (.tmp 37) rfl 1 0 rfl rfl (e := v) rfl rfl (by omega) ?_; intro gB cB w2 K2 _; simp only [List.set] at K2; simp only [Act.put, List.setIfInBounds_toArray, List.set_cons_zero, List.set_cons_succ]; clear KB; have l2 := HL.out _ K2.hb)
          | (refine K2.apps_list srOk rfl (.tmp 39) (.tmp 42) rfl 1 rfl rfl rfl ((TList.nil _ (fun _ => False))) (by omega) ?_; intro gC cC w3 K3 _; simp only [List.set] at K3; simp only [Act.put, List.setIfInBounds_toArray, List.set_cons_zero, List.set_cons_succ]; clear K2 l2))
        go_ret
        have l3 := K3.list srOk 1 rfl
        have hq : List.take 0 [] ++ [v] ++ [] = R := by rw [← hR]; simp
        rw [hq] at l3
        exact ⟨_, _, _, rfl, l3.mono (fun b _ h => .inr h), K3.hb⟩
      | some x =>
        by_cases hc9 : c = 0
        · have hnk : 0 = n := by omega
          subst hnk
          have hc9s := hc9.symm
          subst hc9s
          have KA := K.empty SR
          have l1 := (HL.out _ KA.hb).front srOk 0 hk
          go_wp2_with (first
            | (refine KA.apps_list srOk rfl (.tmp 30) (.tmp 33) rfl 0 rfl rfl rfl l1 (by omega) ?_; intro gA cA w1 K1 _; simp only [List.set, Nat.zero_add, List.nil_append] at K1; simp only [Nat.zero_add, Act.put, List.setIfInBounds_toArray, List.set_cons_zero, List.set_cons_succ]; clear l1 KA; have KB := K1.al (.cells #[.string v] 9); clear K1)
            | (refine KB.apps_one srOk rfl (.tmp 35) (.tmp 37) rfl 1 0 rfl rfl (e := v) rfl rfl (by omega) ?_; intro gB cB w2 K2 _; simp only [List.set] at K2; simp only [Act.put, List.setIfInBounds_toArray, List.set_cons_zero, List.set_cons_succ]; clear KB; have l2 := HL.out _ K2.hb)
            | (refine K2.apps_list srOk rfl (.tmp 39) (.tmp 42) rfl 1 rfl rfl rfl (show TList SR _ _ (some x) 0 0 (L.drop 0) from by have h9 := rest_any srOk l2 (Nat.le_refl 0); rw [if_pos rfl, Nat.sub_self] at h9; exact h9) (by omega) ?_; intro gC cC w3 K3 _; simp only [List.set] at K3; simp only [Act.put, List.setIfInBounds_toArray, List.set_cons_zero, List.set_cons_succ]; clear K2 l2))
          go_ret
          have l3 := K3.list srOk 1 rfl
          have hq : List.take 0 L ++ [v] ++ List.drop 0 L = R := by rw [← hR]; simp
          rw [hq] at l3
          exact ⟨_, _, _, rfl, l3.mono (fun b _ h => .inr h), K3.hb⟩
        · have hc8 : 0 < c := by omega
          have KA := K.empty SR
          have l1 := (HL.out _ KA.hb).front srOk 0 hk
          go_wp2_with (first
            | (refine KA.apps_list srOk rfl (.tmp 30) (.tmp 33) rfl 0 rfl rfl rfl l1 (by omega) ?_; intro gA cA w1 K1 _; simp only [List.set, Nat.zero_add, List.nil_append] at K1; simp only [Nat.zero_add, Act.put, List.setIfInBounds_toArray, List.set_cons_zero, List.set_cons_succ]; clear l1 KA; have KB := K1.al (.cells #[.string v] 9); clear K1)
            | (refine KB.apps_one srOk rfl (.tmp 35) (.tmp 37) rfl 1 0 rfl rfl (e := v) rfl rfl (by omega) ?_; intro gB cB w2 K2 _; simp only [List.set] at K2; simp only [Act.put, List.setIfInBounds_toArray, List.set_cons_zero, List.set_cons_succ]; clear KB; have l2 := HL.out _ K2.hb)
            | (refine K2.apps_list srOk rfl (.tmp 39) (.tmp 42) rfl 1 rfl rfl rfl (show TList SR _ _ (some (x.add 0)) (n - 0) (c - 0) (L.drop 0) from by have h9 := rest_any srOk l2 hk; rw [if_neg hc9, show SR.sz = 1 from rfl, Nat.mul_one] at h9; exact h9) (by omega) ?_; intro gC cC w3 K3 _; simp only [List.set] at K3; simp only [Act.put, List.setIfInBounds_toArray, List.set_cons_zero, List.set_cons_succ]; clear K2 l2))
          go_ret
          have l3 := K3.list srOk 1 rfl
          have hq : List.take 0 L ++ [v] ++ List.drop 0 L = R := by rw [← hR]; simp
          rw [hq] at l3
          exact ⟨_, _, _, rfl, l3.mono (fun b _ h => .inr h), K3.hb⟩
    · obtain ⟨i, hi⟩ : ∃ i, i + 1 = k := ⟨k - 1, by omega⟩
      obtain ⟨x, s, rfl, hs, hc⟩ := HAT.out wr K.hb i (by omega)
      have h1 : (0 : Int) < (k : Int) := by omega
      have e1 : decide ((0 : Int) < (k : Int)) = true := decide_eq_true h1
      have hw1 : IntKind.i64.wrap ((k : Int) - 1) = (i : Int) := by rw [IntWalk.i64_in _ (by omega)]; omega
      have hin : (i : Int) < (n : Int) := by omega
      cases hls : lessB s v with
      | true =>
        have HR2 := (putK_less hi hs hls).symm.trans HR.out
        unfold lessB at hls
        have hge := str_ge hls
        simp only [Bool.not_true] at hge
        clear HR hs h0
        by_cases hc9 : c = k
        · have hnk : k = n := by omega
          subst hnk
          have hc9s := hc9.symm
          subst hc9s
          have KA := K.empty SR
          have l1 := (HL.out _ KA.hb).front srOk k hk
          go_wp2_with (first
            | (refine KA.apps_list srOk rfl (.tmp 30) (.tmp 33) rfl 0 rfl rfl rfl l1 (by omega) ?_; intro gA cA w1 K1 _; simp only [List.set, Nat.zero_add, List.nil_append] at K1; simp only [Nat.zero_add, Act.put, List.setIfInBounds_toArray, List.set_cons_zero, List.set_cons_succ]; clear l1 KA; have KB := K1.al (.cells #[.string v] 9); clear K1)
            | (refine KB.apps_one srOk rfl (.tmp 35) (.tmp 37) rfl 1 0 rfl rfl (e := v) rfl rfl (by omega) ?_; intro gB cB w2 K2 _; simp only [List.set] at K2; simp only [Act.put, List.setIfInBounds_toArray, List.set_cons_zero, List.set_cons_succ]; clear KB; have l2 := HL.out _ K2.hb)
            | (refine K2.apps_list srOk rfl (.tmp 39) (.tmp 42) rfl 1 rfl rfl rfl (show TList SR _ _ (some x) 0 0 (L.drop k) from by have h9 := rest_any srOk l2 (Nat.le_refl k); rw [if_pos rfl, Nat.sub_self] at h9; exact h9) (by omega) ?_; intro gC cC w3 K3 _; simp only [List.set] at K3; simp only [Act.put, List.setIfInBounds_toArray, List.set_cons_zero, List.set_cons_succ]; clear K2 l2))
          go_ret
          have l3 := K3.list srOk 1 rfl
          have hq : List.take k L ++ [v] ++ List.drop k L = R := by rw [← HR2]; simp
          rw [hq] at l3
          exact ⟨_, _, _, rfl, l3.mono (fun b _ h => .inr h), K3.hb⟩
        · have hc8 : k < c := by omega
          have KA := K.empty SR
          have l1 := (HL.out _ KA.hb).front srOk k hk
          go_wp2_with (first
            | (refine KA.apps_list srOk rfl (.tmp 30) (.tmp 33) rfl 0 rfl rfl rfl l1 (by omega) ?_; intro gA cA w1 K1 _; simp only [List.set, Nat.zero_add, List.nil_append] at K1; simp only [Nat.zero_add, Act.put, List.setIfInBounds_toArray, List.set_cons_zero, List.set_cons_succ]; clear l1 KA; have KB := K1.al (.cells #[.string v] 9); clear K1)
            | (refine KB.apps_one srOk rfl (.tmp 35) (.tmp 37) rfl 1 0 rfl rfl (e := v) rfl rfl (by omega) ?_; intro gB cB w2 K2 _; simp only [List.set] at K2; simp only [Act.put, List.setIfInBounds_toArray, List.set_cons_zero, List.set_cons_succ]; clear KB; have l2 := HL.out _ K2.hb)
            | (refine K2.apps_list srOk rfl (.tmp 39) (.tmp 42) rfl 1 rfl rfl rfl (show TList SR _ _ (some (x.add k)) (n - k) (c - k) (L.drop k) from by have h9 := rest_any srOk l2 hk; rw [if_neg hc9, show SR.sz = 1 from rfl, Nat.mul_one] at h9; exact h9) (by omega) ?_; intro gC cC w3 K3 _; simp only [List.set] at K3; simp only [Act.put, List.setIfInBounds_toArray, List.set_cons_zero, List.set_cons_succ]; clear K2 l2))
          go_ret
          have l3 := K3.list srOk 1 rfl
          have hq : List.take k L ++ [v] ++ List.drop k L = R := by rw [← HR2]; simp
          rw [hq] at l3
          exact ⟨_, _, _, rfl, l3.mono (fun b _ h => .inr h), K3.hb⟩
      | false =>
        by_cases hsv : s = v
        · have HR2 := (putK_same hi hs hls hsv).symm.trans HR.out
          unfold lessB at hls
          have hge := str_ge hls
          simp only [Bool.not_false] at hge
          have d1 : (s.toList == v.toList) = true := by rw [hsv]; simp
          clear HR hs h0 hsv
          go_wp2_with fail
          go_ret
          rw [← HR2]
          exact ⟨_, _, _, rfl, HF.out _ K.hb, K.hb⟩
        · have HR2 := Lib.hid ((putK_next hi hs hls hsv).symm.trans HR.out)
          have d1 := ba_ne hsv
          have d2 := bal_ne hsv
          unfold lessB at hls
          have hge := str_ge hls
          simp only [Bool.not_false] at hge
          clear HR hs
          go_wp2_with fail

          go_roundw
          case rel => exact ⟨i, by go_num, by omega, HR2, K⟩
          case measure => simp [intOf]; omega
end Go.Proofs.YtnmhnjjehglcfaaGreat.Ents

/- The order of strings, and what put makes of an ascending list. Plain mathematics. -/
namespace Go.Proofs.YtnmhnjjehglcfaaGreat.LinMath
open HisMath ModMath
theorem bl_irr : ∀ (x : List UInt8), Op.bytesLess x x = false
  | [] => rfl
  | a :: x => by simp [Op.bytesLess, bl_irr x]
theorem bl_trans : ∀ {x y z : List UInt8}, Op.bytesLess x y = true → Op.bytesLess y z = true → Op.bytesLess x z = true
  | _, [], _, h, _ => by simp [Op.bytesLess] at h
  | _, _ :: _, [], _, h => by simp [Op.bytesLess] at h
  | [], _ :: _, _ :: _, _, _ => by simp [Op.bytesLess]
  | a :: x, b :: y, c :: z, h1, h2 => by
    simp only [Op.bytesLess, Bool.or_eq_true, Bool.and_eq_true, decide_eq_true_eq, beq_iff_eq] at h1 h2 ⊢
    rcases h1 with h1 | ⟨rfl, h1⟩
    · rcases h2 with h2 | ⟨rfl, h2⟩
      · exact .inl (UInt8.lt_trans h1 h2)
      · exact .inl h1
    · rcases h2 with h2 | ⟨rfl, h2⟩
      · exact .inl h2
      · exact .inr ⟨rfl, bl_trans h1 h2⟩
theorem bl_total : ∀ {x y : List UInt8}, Op.bytesLess x y = false → Op.bytesLess y x = false → x = y
  | [], [], _, _ => rfl
  | [], _ :: _, h, _ => by simp [Op.bytesLess] at h
  | _ :: _, [], _, h => by simp [Op.bytesLess] at h
  | a :: x, b :: y, h1, h2 => by
    simp only [Op.bytesLess, Bool.or_eq_false_iff, decide_eq_false_iff_not, Bool.and_eq_false_iff, beq_eq_false_iff_ne] at h1 h2
    have hab : a = b := by
      have := UInt8.lt_or_lt_of_ne (a := a) (b := b)
      by_cases h : a = b
      · exact h
      · rcases this h with h | h
        · exact absurd h h1.1
        · exact absurd h h2.1
    subst hab
    rcases h1.2 with h | h
    · exact absurd rfl h
    · rcases h2.2 with h' | h'
      · exact absurd rfl h'
      · rw [bl_total h h']
theorem less_irr (x : ByteArray) : lessB x x = false := bl_irr _
theorem less_trans {x y z : ByteArray} (h1 : lessB x y = true) (h2 : lessB y z = true) : lessB x z = true := bl_trans h1 h2
theorem less_total {x y : ByteArray} (h1 : lessB x y = false) (h2 : lessB y x = false) : x = y := by
  have := bl_total h1 h2
  rw [Lib.toList_data, Lib.toList_data] at this
  obtain ⟨⟨a⟩⟩ := x
  obtain ⟨⟨b⟩⟩ := y
  have h3 : a = b := this
  rw [h3]
def AscS (L : List ByteArray) : Prop := L.Pairwise (fun a b => lessB a b = true)
theorem asc_only : ∀ {xs ys : List ByteArray}, AscS xs → AscS ys → (∀ x, x ∈ xs ↔ x ∈ ys) → xs = ys
  | [], [], _, _, _ => rfl
  | [], y :: ys, _, _, h => by have := (h y).2 (by simp); cases this
  | x :: xs, [], _, _, h => by have := (h x).1 (by simp); cases this
  | x :: xs, y :: ys, h1, h2, h => by
    unfold AscS at h1 h2
    rw [List.pairwise_cons] at h1 h2
    have hxy : x = y := by
      rcases List.mem_cons.1 ((h x).1 (by simp)) with a | a
      · exact a
      · rcases List.mem_cons.1 ((h y).2 (by simp)) with b | b
        · exact b.symm
        · have p := less_trans (h1.1 y b) (h2.1 x a)
          rw [less_irr] at p; cases p
    subst hxy
    congr 1
    refine asc_only h1.2 h2.2 fun z => ⟨fun hz => ?_, fun hz => ?_⟩
    · rcases List.mem_cons.1 ((h z).1 (List.mem_cons_of_mem _ hz)) with a | a
      · subst a; have p := h1.1 z hz; rw [less_irr] at p; cases p
      · exact a
    · rcases List.mem_cons.1 ((h z).2 (List.mem_cons_of_mem _ hz)) with a | a
      · subst a; have p := h2.1 z hz; rw [less_irr] at p; cases p
      · exact a
theorem putK_asc {L : List ByteArray} {v : ByteArray} (hL : AscS L) : ∀ (k : Nat), k ≤ L.length → (∀ x ∈ L.drop k, lessB v x = true) → AscS (putK L v k) ∧ ∀ x, x ∈ putK L v k ↔ x = v ∨ x ∈ L := by
  intro k
  induction k with
  | zero =>
    intro _ hd
    refine ⟨List.pairwise_cons.2 ⟨hd, hL⟩, fun x => ?_⟩
    simp [putK]
  | succ k ih =>
    intro hk hd
    have hs : L[k]? = some (L[k]'(by omega)) := List.getElem?_eq_getElem _
    have hcut : L.drop k = L[k]'(by omega) :: L.drop (k + 1) := (List.getElem_cons_drop (by omega)).symm
    generalize L[k]'(by omega) = s at hs hcut
    have hta : L.take (k + 1) = L.take k ++ [s] := by
      rw [List.take_add_one, hs]; rfl
    have hwhole : L.take (k + 1) ++ L.drop (k + 1) = L := List.take_append_drop _ _
    cases hl : lessB s v with
    | true =>
      rw [putK_less rfl hs hl]
      have hL' := hL
      unfold AscS at hL' ⊢
      rw [← hwhole, List.pairwise_append] at hL'
      have hlt : ∀ x ∈ L.take (k + 1), lessB x v = true := fun x hx => by
        rw [hta] at hx hL'
        rcases List.mem_append.1 hx with h | h
        · exact less_trans ((List.pairwise_append.1 hL'.1).2.2 x h s (by simp)) hl
        · rw [List.mem_singleton.1 h]; exact hl
      refine ⟨List.pairwise_append.2 ⟨hL'.1, List.pairwise_cons.2 ⟨hd, hL'.2.1⟩, fun x hx y hy => ?_⟩, fun x => ?_⟩
      · rcases List.mem_cons.1 hy with h | h
        · rw [h]; exact hlt x hx
        · exact hL'.2.2 x hx y h
      · conv => rhs; rw [← hwhole]
        simp only [List.mem_append, List.mem_cons]
        constructor
        · rintro (h | h | h)
          · exact .inr (.inl h)
          · exact .inl h
          · exact .inr (.inr h)
        · rintro (h | h | h)
          · exact .inr (.inl h)
          · exact .inl h
          · exact .inr (.inr h)
    | false =>
      by_cases he : s = v
      · rw [putK_same rfl hs hl he]
        refine ⟨hL, fun x => ⟨.inr, fun h => ?_⟩⟩
        rcases h with h | h
        · rw [h, ← he]; exact List.mem_of_getElem? hs
        · exact h
      · rw [putK_next rfl hs hl he]
        refine ih (by omega) fun x hx => ?_
        rw [hcut] at hx
        rcases List.mem_cons.1 hx with h | h
        · rw [h]
          cases hv : lessB v s with
          | true => rfl
          | false => exact absurd (less_total hl hv) he
        · exact hd x h
theorem put_asc {L : List ByteArray} {v : ByteArray} (hL : AscS L) : AscS (putE L v) ∧ ∀ x, x ∈ putE L v ↔ x = v ∨ x ∈ L :=
  putK_asc hL L.length (Nat.le_refl _) (by simp)
end Go.Proofs.YtnmhnjjehglcfaaGreat.LinMath

/- Which values a block takes on the way of a search: finitely many, of 16 bytes. Plain mathematics. -/
namespace Go.Proofs.YtnmhnjjehglcfaaGreat.LinMath
open HisMath ModMath CmdMath
def valsL (v0 : ByteArray) (O : List Ev) : List ByteArray := v0 :: zeroC :: O.map (·.data)
theorem vals_len (v0 : ByteArray) (O : List Ev) : (valsL v0 O).length = O.length + 2 := by simp [valsL]
theorem next_vals {x : Ev} {v v' : ByteArray} (h : nextV x v = some v') : (v' = v ∨ v' = x.data ∨ v' = zeroC) ∧ (v.size = 16 → v'.size = 16) := by
  have h1 := (next_is.1 h).1
  unfold applyB at h1
  by_cases he : errM [v] (cmdOf x) = 0
  · rw [if_neg (fun h => h he)] at h1
    split at h1
    · rename_i hk
      have hz : checkC 1 (cmdOf x).kind (cmdOf x).block (cmdOf x).data.size = 0 := he
      have h16 : x.data.size = 16 := by
        have hk' : x.kind = 2 := hk
        unfold checkC at hz
        simp only [cmdOf, hk'] at hz
        split at hz
        · omega
        · split at hz
          · omega
          · split at hz
            · omega
            · rename_i h3
              by_cases hq : x.data.size = 16
              · exact hq
              · exact absurd (Or.inl ⟨trivial, by simpa using hq⟩) h3
      cases hb : (cmdOf x).block.toNat with
      | zero =>
        rw [hb] at h1
        obtain rfl : x.data = v' := by simpa [cmdOf] using h1
        exact ⟨.inr (.inl rfl), fun _ => h16⟩
      | succ n =>
        rw [hb] at h1
        obtain rfl : v = v' := by simpa using h1
        exact ⟨.inl rfl, fun h => h⟩
    · split at h1
      · cases hb : (cmdOf x).block.toNat with
        | zero =>
          rw [hb] at h1
          obtain rfl : zeroC = v' := by simpa using h1
          exact ⟨.inr (.inr rfl), fun _ => rfl⟩
        | succ n =>
          rw [hb] at h1
          obtain rfl : v = v' := by simpa using h1
          exact ⟨.inl rfl, fun h => h⟩
      · obtain rfl : v = v' := by simpa using h1
        exact ⟨.inl rfl, fun h => h⟩
  · rw [if_pos he] at h1
    obtain rfl : v = v' := by simpa using h1
    exact ⟨.inl rfl, fun h => h⟩
theorem next_in {v0 v v' : ByteArray} {O : List Ev} {i : Nat} {x : Ev} (hx : O[i]? = some x) (h : nextV x v = some v') (hv : v ∈ valsL v0 O) : v' ∈ valsL v0 O := by
  rcases (next_vals h).1 with rfl | rfl | rfl
  · exact hv
  · exact List.mem_cons_of_mem _ (List.mem_cons_of_mem _ (List.mem_map.2 ⟨x, List.mem_of_getElem? hx, rfl⟩))
  · exact List.mem_cons_of_mem _ List.mem_cons_self
theorem path_in {L O : List Ev} {v0 v u : ByteArray} {D D' : Nat} {l : List Int} (h : Path L O D v l D' u) (hv : v ∈ valsL v0 O) : u ∈ valsL v0 O := by
  induction h with
  | nil D v => exact hv
  | cons hx hc hn _ ih => exact ih (next_in hx hn hv)
theorem ends_in {L O : List Ev} {v0 v u : ByteArray} {D : Nat} (h : Ends L O D v u) (hv : v ∈ valsL v0 O) : u ∈ valsL v0 O := by
  obtain ⟨l, D', h, _⟩ := h
  exact path_in h hv
theorem nodup_le {α : Type} [DecidableEq α] : ∀ {l m : List α}, l.Nodup → (∀ x ∈ l, x ∈ m) → l.length ≤ m.length
  | [], _, _, _ => Nat.zero_le _
  | a :: l, m, hn, h => by
    have ha := h a List.mem_cons_self
    have h1 := nodup_le (l := l) (m := m.erase a) (List.nodup_cons.1 hn).2 fun x hx => by
      have hne : x ≠ a := fun e => (List.nodup_cons.1 hn).1 (e ▸ hx)
      exact (List.mem_erase_of_ne hne).2 (h x (List.mem_cons_of_mem _ hx))
    rw [List.length_erase_of_mem ha] at h1
    have := List.length_pos_of_mem ha
    simp only [List.length_cons]
    omega
theorem asc_nodup {l : List ByteArray} (h : AscS l) : l.Nodup := List.Pairwise.imp (fun {a b} hab e => by rw [e, less_irr] at hab; cases hab) h
theorem asc_few {v0 : ByteArray} {O : List Ev} {l : List ByteArray} (h : AscS l) (hm : ∀ u ∈ l, u ∈ valsL v0 O) : l.length ≤ O.length + 2 := by
  rw [← vals_len v0 O]
  exact nodup_le (asc_nodup h) hm
theorem bit_grows {D i n : Nat} (hb : D.testBit i = false) (hi : i < n) (hD : D < 2 ^ n) : D < D ||| 2 ^ i ∧ D ||| 2 ^ i < 2 ^ n := by
  have h1 : D ||| 2 ^ i < 2 ^ n := Nat.or_lt_two_pow hD (Nat.pow_lt_pow_right (by decide) hi)
  refine ⟨?_, h1⟩
  have h2 : D ≤ D ||| 2 ^ i := Nat.left_le_or
  rcases Nat.lt_or_eq_of_le h2 with h | h
  · exact h
  · exfalso
    have : (D ||| 2 ^ i).testBit i = true := by rw [bit_or]; simp
    rw [← h, hb] at this
    cases this
theorem firstE_get {L O : List Ev} {n : Nat} : ∀ (k i : Nat) (x : Ev), i < k → k ≤ O.length → O[i]? = some x → (firstE L O n k)[i]? = some ((setN L O x.serial n : Nat) : Int) ∧ (firstE L O n k).length = k
  | 0, _, _, h, _, _ => absurd h (Nat.not_lt_zero _)
  | k + 1, i, x, h, hk, hx => by
    have hlen : ∀ k, k ≤ O.length → (firstE L O n k).length = k := by
      intro k
      induction k with
      | zero => intro _; rfl
      | succ k ih =>
        intro hk
        rw [← first_next (List.getElem?_eq_getElem (show k < O.length by omega)), List.length_append, ih (by omega)]
        rfl
    refine ⟨?_, hlen _ hk⟩
    rw [← first_next (List.getElem?_eq_getElem (show k < O.length by omega))]
    by_cases hik : i < k
    · rw [List.getElem?_append_left (by rw [hlen k (by omega)]; exact hik)]
      exact (firstE_get k i x hik (by omega) hx).1
    · obtain rfl : i = k := by omega
      rw [List.getElem?_append_right (by rw [hlen i (by omega)]; exact Nat.le_refl _), hlen i (by omega), Nat.sub_self]
      rw [List.getElem?_eq_getElem (show i < O.length by omega)] at hx
      obtain rfl := Option.some.inj hx
      rfl
theorem path_len {L O : List Ev} {n : Nat} (hn : O.length ≤ n) {D D' : Nat} {v u : ByteArray} {l : List Int} (h : Path L O D v l D' u) (hD : D < 2 ^ n) : l.length ≤ 2 ^ n - D := by
  induction h with
  | nil D v => exact Nat.zero_le _
  | cons hx hc _ _ ih =>
    have hi := (List.getElem?_eq_some_iff.1 hx).1
    obtain ⟨h1, h2⟩ := bit_grows hc.1 (Nat.lt_of_lt_of_le hi hn) hD
    have := ih h2
    simp only [List.length_cons]
    omega
theorem next_fit {x : Ev} {v u : ByteArray} (hu : applyB [v] (cmdOf x) = [u]) :
    ((!x.ret || decide ((applyR [v] (cmdOf x)).err = x.err ∧ (applyR [v] (cmdOf x)).data = x.res)) = true → nextV x v = some u) ∧
    ((!x.ret || decide ((applyR [v] (cmdOf x)).err = x.err ∧ (applyR [v] (cmdOf x)).data = x.res)) = false → nextV x v = none) := by
  unfold nextV
  rw [hu]
  constructor
  · intro h
    rw [if_neg]
    · rfl
    · rintro ⟨h1, h2⟩
      rw [h1] at h
      exact h2 (by simpa using h)
  · intro h
    rw [if_pos]
    cases hr : x.ret with
    | false => rw [hr] at h; cases h
    | true => rw [hr] at h; exact ⟨rfl, by simpa using h⟩
end Go.Proofs.YtnmhnjjehglcfaaGreat.LinMath
