/- Texts that belong together, part 25. -/
import Derived.Test.YtnmhnjjehglcfaaGreatPack24

/- Lists of steps and of sets in memory, the search's box, and the walk of the program's has. -/
namespace Go.Proofs.YtnmhnjjehglcfaaGreat.Ents
open Go.RowKit Plan HisMath LinMath Rws Env LayMath Bits SrchM
abbrev sT (g : Nat) (sa : Option Addr) (sn sc : Nat) (ba : Option Addr) (bc : Nat) (mb : Nat) (ov : Value) : Thing := .box g (.cells #[.slice sa sn sc, .slice ba sn bc, .map (some mb), ov] 131 (0, 0))
abbrev aT (X D : Nat) (v : ByteArray) : Thing := .box X (.cells #[.int .u32 (D : Int), .string v] 136 (0, 0))
def serO (S : List Stp) (o : List Nat) : List Int := o.map fun i => match S[i]? with | some a => a.serial | none => 0
end Go.Proofs.YtnmhnjjehglcfaaGreat.Ents

/- The walk of the program's do: a step is done, unless one that is before it is left. -/
namespace Go.Proofs.YtnmhnjjehglcfaaGreat.Ents
open Go.RowKit Plan HisMath LinMath Rws Env LayMath Bits SrchM
end Go.Proofs.YtnmhnjjehglcfaaGreat.Ents

/- The walks of the program's readAll, hasReads and writeRest. -/
namespace Go.Proofs.YtnmhnjjehglcfaaGreat.SrchM
open LinMath
end Go.Proofs.YtnmhnjjehglcfaaGreat.SrchM
namespace Go.Proofs.YtnmhnjjehglcfaaGreat.Ents
open Go.RowKit Plan HisMath LinMath Rws Env LayMath Bits SrchM
abbrev sTs (S : List Stp) (g : Nat) (sa : Option Addr) (sn sc : Nat) (ba : Option Addr) (bc mb X : Nat) (t : St) (ov : Value) (T : List Thing) : List Thing := aT X t.D t.v :: sT g sa sn sc ba bc mb ov :: Env.lst IR ov t.o.length (serO S t.o) :: T
def StGo (S : List Stp) (g : Nat) (sa : Option Addr) (sn sc : Nat) (ba : Option Addr) (bc mb X : Nat) (s t : St) (w0 w : World) (F : Nat → Prop) (T : List Thing) (ov : Value) (w' : World) : Prop :=
  ∃ ov', Env w0 w' (sTs S g sa sn sc ba bc mb X t ov' T) ∧ Keep w0 F w (sTs S g sa sn sc ba bc mb X s ov T) w' (sTs S g sa sn sc ba bc mb X t ov' T)
theorem StGo.trans {S : List Stp} {g sn sc bc mb X : Nat} {sa ba : Option Addr} {s t u : St} {w0 w w1 w2 : World} {F : Nat → Prop} {T : List Thing} {ov ov1 : Value} (k : Keep w0 F w (sTs S g sa sn sc ba bc mb X s ov T) w1 (sTs S g sa sn sc ba bc mb X t ov1 T)) (h : StGo S g sa sn sc ba bc mb X t u w0 w1 F T ov1 w2) : StGo S g sa sn sc ba bc mb X s u w0 w F T ov w2 := by
  obtain ⟨ov', K, k2⟩ := h
  exact ⟨ov', K, k.trans k2⟩
end Go.Proofs.YtnmhnjjehglcfaaGreat.Ents

/- The walk of the program's isPair. -/
namespace Go.Proofs.YtnmhnjjehglcfaaGreat.SrchM
end Go.Proofs.YtnmhnjjehglcfaaGreat.SrchM
namespace Go.Proofs.YtnmhnjjehglcfaaGreat.Ents
open Go.RowKit Plan HisMath LinMath Rws Env LayMath Bits SrchM
end Go.Proofs.YtnmhnjjehglcfaaGreat.Ents

/- What the program's finish and tryPair leave: an end was found, or there is none, and what was seen has none. Plain mathematics. -/
namespace Go.Proofs.YtnmhnjjehglcfaaGreat.SrchM
open LinMath Ents
/-- what was seen with more steps done has no end -/
def KnownG (S : List Stp) (D : Nat) (Sn : List (Int × ByteArray)) : Prop := ∀ (D' : Nat) (v' : ByteArray), ((D' : Int), v') ∈ Sn → D < D' → ¬ Compl S D' v'
def KnownE (S : List Stp) (D : Nat) (Sn : List (Int × ByteArray)) : Prop := ∀ (D' : Nat) (v' : ByteArray), ((D' : Int), v') ∈ Sn → D ≤ D' → ¬ Compl S D' v'
def pairC (S : List Stp) (s : St) (w r : Nat) : Prop := (pair3 S s w r).D.testBit r = true ∧ Compl S (pair3 S s w r).D (pair3 S s w r).v
structure FinM (S : List Stp) (s : St) (Sn : List (Int × ByteArray)) (b : Bool) (OL : List Int) (Sn' : List (Int × ByteArray)) : Prop where
  yes : b = true → ∃ t, Goes S s t ∧ goal S t.D ∧ OL = serO S t.o
  no : b = false → ¬ Compl S s.D s.v
  ord : b = false → ∃ m, OL = serO S s.o ++ m
  seen : b = false → ∀ p ∈ Sn', p ∈ Sn ∨ ∃ D' : Nat, p.1 = (D' : Int) ∧ s.D ≤ D' ∧ ¬ Compl S D' p.2
structure TryM (S : List Stp) (s : St) (w r : Nat) (Sn : List (Int × ByteArray)) (b : Bool) (OL : List Int) (Sn' : List (Int × ByteArray)) : Prop where
  yes : b = true → ∃ t, Goes S s t ∧ goal S t.D ∧ OL = serO S t.o
  no : b = false → ¬ pairC S s w r
  ord : b = false → ∃ m, OL = serO S s.o ++ m
  seen : b = false → ∀ p ∈ Sn', p ∈ Sn ∨ ∃ D' : Nat, p.1 = (D' : Int) ∧ s.D < D' ∧ ¬ Compl S D' p.2
section
variable {S : List Stp} {s t : St} {w r : Nat} {Sn Sn' Sn2 : List (Int × ByteArray)} {b : Bool} {OL : List Int}
theorem ser_app (o l : List Nat) : serO S (o ++ l) = serO S o ++ serO S l := by simp [serO]
theorem Goes.ser (h : Goes S s t) : ∃ m, serO S t.o = serO S s.o ++ m := by
  obtain ⟨l, _, e⟩ := h
  exact ⟨serO S l, by rw [e, ser_app]⟩
/-- more bits make a greater number -/
theorem bits_le {D E : Nat} (h : ∀ k, D.testBit k = true → E.testBit k = true) : D ≤ E := by
  have : D ||| E = E := Nat.eq_of_testBit_eq fun i => by
    rw [Nat.testBit_or]
    cases hq : D.testBit i with
    | false => rfl
    | true => rw [h i hq]; rfl
  rw [← this]
  exact Nat.left_le_or
theorem Goes.le (h : Goes S s t) : s.D ≤ t.D := bits_le fun _ hk => h.mono hk
theorem Goes.lt (h : Goes S s t) {k : Nat} (h1 : s.D.testBit k = false) (h2 : t.D.testBit k = true) : s.D < t.D := by
  rcases Nat.lt_or_eq_of_le h.le with h3 | h3
  · exact h3
  · rw [h3, h2] at h1; cases h1
theorem pair_lt (hp : isPair S s w r) (hr : (pair3 S s w r).D.testBit r = true) : s.D < (pair3 S s w r).D := by
  have hq := hp
  obtain ⟨a, b, _, _, _, _, _, _, h⟩ := hq
  exact (pair_goes hp).lt h hr
theorem KnownG.pair (hk : KnownG S s.D Sn) (hp : isPair S s w r) (h : (pair3 S s w r).D.testBit r = true) : KnownE S (pair3 S s w r).D Sn := fun D' v' hm hle => hk D' v' hm (Nat.lt_of_lt_of_le (pair_lt hp h) hle)
/-- reading first loses nothing -/
theorem compl_read (h : Compl S s.D s.v) (n : Nat) : Compl S (loopS S readP s n).D (loopS S readP s n).v := by
  have h1 := read_only (S := S) s n
  rw [h1.1]
  exact h.more (fun k hk => (read_goes s n).1.mono hk) h1.2
/-- where the search of a state stands: which pairs have been tried -/
structure FSt (S : List Stp) (s1 : St) (Sn : List (Int × ByteArray)) (i j : Nat) (Sn2 : List (Int × ByteArray)) : Prop where
  seen : ∀ p ∈ Sn2, p ∈ Sn ∨ p = ((s1.D : Int), s1.v) ∨ ∃ D' : Nat, p.1 = (D' : Int) ∧ s1.D < D' ∧ ¬ Compl S D' p.2
  no : ∀ w r, (w < i ∨ w = i ∧ r < j) → isPair S s1 w r → ¬ pairC S s1 w r
theorem FSt.start : FSt S s Sn 0 0 (((s.D : Int), s.v) :: Sn) := ⟨fun p hp => by
  rcases List.mem_cons.1 hp with h | h
  · exact .inr (.inl h)
  · exact .inl h, fun w r h => by omega⟩
variable {i j : Nat}
theorem FSt.skip (h : FSt S s Sn i j Sn2) (hn : ¬ isPair S s i j) : FSt S s Sn i (j + 1) Sn2 := ⟨h.seen, fun w r hw hp => by
  by_cases hq : w = i ∧ r = j
  · obtain ⟨rfl, rfl⟩ := hq; exact absurd hp hn
  · exact h.no w r (by omega) hp⟩
theorem FSt.tried {OL : List Int} {Sn3 : List (Int × ByteArray)} (h : FSt S s Sn i j Sn2) (ht : TryM S s i j Sn2 false OL Sn3) : FSt S s Sn i (j + 1) Sn3 := by
  refine ⟨fun p hp => ?_, fun w r hw hp => ?_⟩
  · rcases ht.seen rfl p hp with h1 | h1
    · exact h.seen p h1
    · exact .inr (.inr h1)
  · by_cases hq : w = i ∧ r = j
    · obtain ⟨rfl, rfl⟩ := hq; exact ht.no rfl
    · exact h.no w r (by omega) hp
theorem FSt.row (h : FSt S s Sn i j Sn2) (hj : S.length ≤ j) : FSt S s Sn (i + 1) 0 Sn2 := ⟨h.seen, fun w r hw hp => by
  refine h.no w r ?_ hp
  obtain ⟨a, b, ha, hb, _⟩ := hp
  have := (List.getElem?_eq_some_iff.1 hb).1
  omega⟩
theorem FSt.known (h : FSt S s Sn i j Sn2) (hk : KnownG S s.D Sn) : KnownG S s.D Sn2 := fun D' v' hm hlt => by
  rcases h.seen _ hm with h1 | h1 | ⟨D2, h1, _, h3⟩
  · exact hk D' v' h1 hlt
  · have : (D' : Int) = (s.D : Int) := congrArg Prod.fst h1
    omega
  · have h1' : (D' : Int) = (D2 : Int) := h1
    obtain rfl : D' = D2 := by omega
    exact h3
theorem KnownE.read {n : Nat} (hk : KnownE S s.D Sn) : KnownG S (loopS S readP s n).D Sn := fun D' v' hm hlt => hk D' v' hm (Nat.le_of_lt (Nat.lt_of_le_of_lt (read_goes s n).1.le hlt))
theorem FSt.done (hS : SOk S) (h : FSt S (loopS S readP s S.length) Sn i j Sn2) (hi : S.length ≤ i) (hr : ∃ i, isR S i ∧ (loopS S readP s S.length).D.testBit i = false) : FinM S s Sn false (serO S (loopS S readP s S.length).o) Sn2 := by
  have hno : ¬ Compl S (loopS S readP s S.length).D (loopS S readP s S.length).v := fun hc => by
    obtain ⟨w, r, h1, h2⟩ := pair_exists hS (fun k a ha har hv hp => read_max hS s ha har (hv.trans (read_only s S.length).1) hp) hr hc
    refine h.no w r (.inl ?_) h1 h2
    obtain ⟨a, b, ha, _⟩ := h1
    have := (List.getElem?_eq_some_iff.1 ha).1
    omega
  refine ⟨fun h => (by cases h), fun _ hc => hno (compl_read hc S.length), fun _ => (read_goes s S.length).1.ser, fun _ p hp => ?_⟩
  rcases h.seen p hp with h1 | h1 | ⟨D', h1, h2, h3⟩
  · exact .inl h1
  · exact .inr ⟨_, by rw [h1], (read_goes s S.length).1.le, by rw [h1]; exact hno⟩
  · exact .inr ⟨D', h1, Nat.le_trans (read_goes s S.length).1.le (Nat.le_of_lt h2), h3⟩
theorem FSt.found {OL : List Int} {Sn3 : List (Int × ByteArray)} {n : Nat} (ht : TryM S (loopS S readP s n) i j Sn2 true OL Sn3) : FinM S s Sn true OL Sn3 := by
  obtain ⟨t, h1, h2, h3⟩ := ht.yes rfl
  exact ⟨fun _ => ⟨t, (read_goes s n).1.trans h1, h2, h3⟩, fun h => (by cases h), fun h => (by cases h), fun h => (by cases h)⟩
/-- every value on the way is the first one or one of a step -/
theorem Goes.value {v0 : ByteArray} (h : Goes S ⟨0, v0, []⟩ t) : t.v = v0 ∨ ∃ a ∈ S, a.value = t.v := by
  obtain ⟨l, h, _⟩ := h
  have key : ∀ {D D' : Nat} {v w : ByteArray} {l : List Nat}, Run S D v l D' w → w = v ∨ ∃ a ∈ S, a.value = w := fun h => by
    induction h with
    | nil => exact .inl rfl
    | @cons D v i a l D' v' ha hd hp hr _ ih =>
      rcases ih with h1 | h1
      · exact .inr ⟨a, List.mem_of_getElem? ha, h1.symm⟩
      · exact .inr h1
  exact key h
end
end Go.Proofs.YtnmhnjjehglcfaaGreat.SrchM
