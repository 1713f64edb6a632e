/- Texts that belong together, part 11. -/
import Derived.Test.YtnmhnjjehglcfaaGreatPack10
import Derived.Deep.Cut
import Derived.MapKept
import Derived.RangeFuncNested

/- Sets of small numbers as numbers of 32 bits. -/
namespace Go.Proofs.YtnmhnjjehglcfaaGreat.Bits
open Go.RowKit Plan
end Go.Proofs.YtnmhnjjehglcfaaGreat.Bits

/- A part of a function's text, found by its test, so that a walk can be made in parts. -/
namespace Go.Proofs.YtnmhnjjehglcfaaGreat.Part
open Go Go.RowKit
end Go.Proofs.YtnmhnjjehglcfaaGreat.Part

/- What the program promises of commands (its Check and Zero). -/
namespace Go.Proofs.YtnmhnjjehglcfaaGreat.Ents
open Go.RowKit Plan LayMath CmdMath
structure CommandOk : Prop where
  check : ∀ (cz cs cb cq cd ch k b : Int) (s : ByteArray) (w : World),
    Calls Tryz.prog 131 #[confV cz cs cb cq cd ch, cmdV k b s] w fun r w' => r = .returned (.int .i64 (checkC cb k b s.size)) ∧ Below w.heap.size w w'
  zero : ∀ (w : World), Calls Tryz.prog 133 #[] w fun r w' => r = .returned (.string zeroC) ∧ Below w.heap.size w w'
end Go.Proofs.YtnmhnjjehglcfaaGreat.Ents

/- A map from numbers to values of one type: asked, with its second answer and without, and written, also over what is there; as a thing of a walk. -/
namespace Go.Proofs.YtnmhnjjehglcfaaGreat.Ents
open Go.RowKit Plan Rws Env
open MapKept (IsKey findNow_spec run_checkKey run_findKey run_setObj_map)
def IMap (W : World) (B : Nat) (f : Int → Option Value) : Prop :=
  ∃ es ck, W.heap[B]? = some (.map es ck) ∧ (es.toList.map (·.key)).Nodup ∧ (∀ e ∈ es.toList, ∃ z : Int, e.key = .int .i64 z ∧ f z = some e.val) ∧ ∀ (z : Int) (v : Value), f z = some v → ∃ e ∈ es.toList, e.key = .int .i64 z
theorem IMap.new {W : World} {B : Nat} (h : W.heap[B]? = some (.map #[] 0)) : IMap W B (fun _ => none) :=
  ⟨_, _, h, by simp, by simp, fun _ _ h => by cases h⟩
theorem IMap.on {W W' : World} {B : Nat} {f : Int → Option Value} (h : IMap W B f) (hb : W'.heap[B]? = W.heap[B]?) : IMap W' B f := by
  obtain ⟨es, ck, h1, h2⟩ := h
  exact ⟨es, ck, hb.trans h1, h2⟩
theorem IMap.lt {W : World} {B : Nat} {f : Int → Option Value} (h : IMap W B f) : B < W.heap.size := by
  obtain ⟨es, ck, h1, h2⟩ := h
  exact (Array.getElem?_eq_some_iff.1 h1).1
theorem imap_look {mt et : TypeId} (hu : Tryz.prog.underlying mt = some (.map 3 et)) {Z : Value} (hz : ∀ W, (zeroValue et).run Tryz.prog W = .ok Z W) {W : World} {B : Nat} {f : Int → Option Value} (h : IMap W B f) (z : Int) :
    (Instr.lookup mt (.map (some B)) (.int .i64 z) true).run Tryz.prog W = .ok (.tuple #[(f z).getD Z, .bool (f z).isSome]) W ∧ (Instr.lookup mt (.map (some B)) (.int .i64 z) false).run Tryz.prog W = .ok ((f z).getD Z) W := by
  obtain ⟨es, ck, hb, hnd, hk, hs⟩ := h
  have hkey : IsKey (.int .i64) (.int .i64 z) := rfl
  have hall : ∀ x ∈ es.toList, IsKey (.int .i64) x.key := fun x hx => by obtain ⟨y, hy, _⟩ := hk x hx; rw [hy]; rfl
  rcases findNow_spec hkey es.toList 0 hall with ⟨h1, h2⟩ | ⟨j, e, h1, h2, h3⟩
  · have hr : f z = none := by
      cases hq : f z
      · rfl
      · obtain ⟨e, he, hz⟩ := hs z _ hq
        exact absurd hz (h2 e he)
    rw [hr]
    constructor <;> simp [Instr.lookup, run_underlying hu, MapKept.run_getObj_map hb, run_checkKey Tryz.underlying3 hkey, run_findKey Tryz.underlying3 h1, hz W, Result.andThen]
  · have he : e ∈ es.toList := List.mem_of_getElem? h2
    obtain ⟨y, hy, hv⟩ := hk e he
    have hyz : y = z := by rw [hy] at h3; cases h3; rfl
    subst hyz
    rw [hv]
    constructor <;> simp [Instr.lookup, run_underlying hu, MapKept.run_getObj_map hb, run_checkKey Tryz.underlying3 hkey, run_findKey Tryz.underlying3 h1, Result.andThen]
def putF (f : Int → Option Value) (z : Int) (v : Value) : Int → Option Value := fun y => if y = z then some v else f y
theorem imap_put {mt et : TypeId} (hu : Tryz.prog.underlying mt = some (.map 3 et)) {W : World} {B : Nat} {f : Int → Option Value} (h : IMap W B f) (z : Int) (v : Value) :
    ∃ W', (Instr.mapUpdate mt (.map (some B)) (.int .i64 z) v).run Tryz.prog W = .ok () W' ∧ IMap W' B (putF f z v) ∧ W.grownBy W' (some B) := by
  obtain ⟨es, ck, hb, hnd, hk, hs⟩ := h
  have hkey : IsKey (.int .i64) (.int .i64 z) := rfl
  have hall : ∀ x ∈ es.toList, IsKey (.int .i64) x.key := fun x hx => by obtain ⟨y, hy, _⟩ := hk x hx; rw [hy]; rfl
  have hBlt := (Array.getElem?_eq_some_iff.1 hb).1
  rcases findNow_spec hkey es.toList 0 hall with ⟨h1, h2⟩ | ⟨j, e, h1, h2, h3⟩
  · refine ⟨W.putObj B (.map (es.push { key := .int .i64 z, val := v, born := ck }) (ck + 1)), ?_, ⟨_, _, World.putObj_heap_same hBlt, ?_, ?_, ?_⟩, grownBy_putObj' W B _⟩
    · simp [Instr.mapUpdate, run_underlying hu, MapKept.run_getObj_map hb, run_checkKey Tryz.underlying3 hkey, run_findKey Tryz.underlying3 h1, run_setObj_map _ hb, Result.andThen, World.putObj]
    · simp only [Array.toList_push, List.map_append, List.map_cons, List.map_nil]
      refine List.nodup_append.2 ⟨hnd, by simp, ?_⟩
      intro a ha b hb
      simp only [List.mem_singleton] at hb
      subst hb
      obtain ⟨x, hx, rfl⟩ := List.mem_map.1 ha
      exact h2 x hx
    · intro x hx
      simp only [Array.toList_push, List.mem_append, List.mem_singleton] at hx
      rcases hx with hx | rfl
      · obtain ⟨y, hy, hv⟩ := hk x hx
        have hne : y ≠ z := fun e => h2 x hx (by rw [hy, e])
        exact ⟨y, hy, by simp [putF, hne, hv]⟩
      · exact ⟨z, rfl, by simp [putF]⟩
    · intro y v' hy
      simp only [Array.toList_push, List.mem_append, List.mem_singleton]
      by_cases hyz : y = z
      · subst hyz
        exact ⟨_, .inr rfl, rfl⟩
      · simp only [putF, if_neg hyz] at hy
        obtain ⟨x, hx, hk'⟩ := hs y v' hy
        exact ⟨x, .inl hx, hk'⟩
  · have hj : es[j]? = some e := by simpa using h2
    have hjl : j < es.toList.length := (List.getElem?_eq_some_iff.1 h2).1
    have hmod : ∀ (i : Nat) (x : MapEntry), (es.modify j fun e => { e with key := .int .i64 z, val := v }).toList[i]? = some x → (i = j ∧ x.key = .int .i64 z ∧ x.val = v) ∨ (i ≠ j ∧ es.toList[i]? = some x) := by
      intro i x hx
      rw [Array.getElem?_toList, Array.getElem?_modify] at hx
      by_cases hij : j = i
      · subst hij
        rw [if_pos rfl, hj] at hx
        obtain rfl := Option.some.inj hx
        exact .inl ⟨rfl, rfl, rfl⟩
      · rw [if_neg hij] at hx
        exact .inr ⟨fun e => hij e.symm, by rw [Array.getElem?_toList]; exact hx⟩
    refine ⟨W.putObj B (.map (es.modify j fun e => { e with key := .int .i64 z, val := v }) ck), ?_, ⟨_, _, World.putObj_heap_same hBlt, ?_, ?_, ?_⟩, grownBy_putObj' W B _⟩
    · simp [Instr.mapUpdate, run_underlying hu, MapKept.run_getObj_map hb, run_checkKey Tryz.underlying3 hkey, run_findKey Tryz.underlying3 h1, hj, h3, MapKept.run_keyThatStays hkey, run_setObj_map _ hb, Result.andThen, World.putObj]
    · rw [MapKept.modify_keys j _ (fun e' he' => by rw [hj] at he'; cases he'; exact h3.symm)]
      exact hnd
    · intro x hx
      obtain ⟨i, hi⟩ := List.mem_iff_getElem?.1 hx
      rcases hmod i x hi with ⟨_, hk', hv'⟩ | ⟨hne, hi'⟩
      · exact ⟨z, hk', by simp [putF, hv']⟩
      · obtain ⟨y, hy, hv⟩ := hk x (List.mem_of_getElem? hi')
        have hyz : y ≠ z := fun e9 => by
          have hil : i < (es.toList.map (·.key)).length := by rw [List.length_map]; exact (List.getElem?_eq_some_iff.1 hi').1
          have hjl' : j < (es.toList.map (·.key)).length := by rw [List.length_map]; exact hjl
          have e1 : (es.toList.map (·.key))[i]? = some (.int .i64 z) := by rw [List.getElem?_map, hi', Option.map_some, hy, e9]
          have e2 : (es.toList.map (·.key))[j]? = some (.int .i64 z) := by rw [List.getElem?_map, h2, Option.map_some, h3]
          exact hne ((List.getElem_inj (h₀ := hil) (h₁ := hjl') hnd).1 (by rw [(List.getElem_eq_iff hil).2 e1, (List.getElem_eq_iff hjl').2 e2]))
        exact ⟨y, hy, by simp [putF, hyz, hv]⟩
    · intro y v' hy
      by_cases hyz : y = z
      · subst hyz
        have : (es.modify j fun e => { e with key := .int .i64 y, val := v }).toList[j]? = some { e with key := .int .i64 y, val := v } := by
          rw [Array.getElem?_toList, Array.getElem?_modify, if_pos rfl, hj]
          rfl
        exact ⟨_, List.mem_of_getElem? this, rfl⟩
      · simp only [putF, if_neg hyz] at hy
        obtain ⟨x, hx, hk'⟩ := hs y v' hy
        obtain ⟨i, hi⟩ := List.mem_iff_getElem?.1 hx
        have hij : j ≠ i := fun e9 => by
          subst e9
          rw [h2] at hi
          obtain rfl := Option.some.inj hi
          rw [h3] at hk'
          cases hk'
          exact hyz rfl
        have : (es.modify j fun e => { e with key := .int .i64 z, val := v }).toList[i]? = some x := by
          rw [Array.getElem?_toList, Array.getElem?_modify, if_neg hij]
          rw [Array.getElem?_toList] at hi
          exact hi
        exact ⟨x, List.mem_of_getElem? this, hk'⟩
abbrev imapT (mb : Nat) (f : Int → Option Value) : Thing := .any (fun b => b = mb) (fun W => IMap W mb f)
theorem imap_holds {B mb : Nat} {W : World} {f : Int → Option Value} (h : IMap W mb f) (hb : B ≤ mb) : (imapT mb f).holds B W :=
  ⟨h, fun b e => by subst e; exact ⟨hb, h.lt⟩, fun _ _ h1 _ hs => h1.on (hs mb rfl)⟩
section
variable {w W : World} {T : List Thing} {mb : Nat} {f : Int → Option Value}
theorem env_mget (K : Env w W T) (i : Nat) (h : T[i]? = some (imapT mb f)) : IMap W mb f := (K.at' i h).1
theorem env_mput {mt et : TypeId} (hu : Tryz.prog.underlying mt = some (.map 3 et)) (K : Env w W T) (i : Nat) (h : T[i]? = some (imapT mb f)) (z : Int) (v : Value) :
    ∃ W', (Instr.mapUpdate mt (.map (some mb)) (.int .i64 z) v).run Tryz.prog W = .ok () W' ∧ Env w W' (T.set i (imapT mb (putF f z v))) ∧ ∀ F, Keep w F W T W' (T.set i (imapT mb (putF f z v))) := by
  obtain ⟨W', hr, hs', hg⟩ := imap_put hu (env_mget K i h) z v
  have hb : w.heap.size ≤ mb := (((K.at' i h).2.1) mb rfl).1
  have := K.change (y := imapT mb (putF f z v)) i h (Chg.grown hg rfl) (imap_holds hs' hb) (fun g e => .inl e)
  exact ⟨W', hr, this.1, this.2⟩
/-- a new map -/
theorem env_mnew (K : Env w W T) : Env w (W.alloc (.map #[] 0)) (imapT W.heap.size (fun _ => none) :: T) :=
  K.cons ((Below.refl _ _).alloc (Nat.le_refl _) _) (imap_holds (IMap.new (heap_alloc_new W _)) K.hb.size) (fun g hg => by have : g = W.heap.size := hg; omega)
end
end Go.Proofs.YtnmhnjjehglcfaaGreat.Ents

/- A map that holds true at each number that has come: asked, and written; as a thing of a walk. -/
namespace Go.Proofs.YtnmhnjjehglcfaaGreat.Ents
open Go.RowKit Plan Rws Env
open MapKept (IsKey findNow_spec run_checkKey run_findKey run_setObj_map)
def ISeen (W : World) (B : Nat) (L : List Int) : Prop :=
  ∃ es ck, W.heap[B]? = some (.map es ck) ∧ (∀ e ∈ es.toList, ∃ z : Int, e.key = .int .i64 z ∧ e.val = .bool true) ∧ ∀ z : Int, (∃ e ∈ es.toList, e.key = .int .i64 z) ↔ z ∈ L
theorem ISeen.new {W : World} {B : Nat} (h : W.heap[B]? = some (.map #[] 0)) : ISeen W B [] :=
  ⟨_, _, h, by simp, by simp⟩
theorem ISeen.on {W W' : World} {B : Nat} {L : List Int} (h : ISeen W B L) (hb : W'.heap[B]? = W.heap[B]?) : ISeen W' B L := by
  obtain ⟨es, ck, h1, h2⟩ := h
  exact ⟨es, ck, hb.trans h1, h2⟩
theorem ISeen.lt {W : World} {B : Nat} {L : List Int} (h : ISeen W B L) : B < W.heap.size := by
  obtain ⟨es, ck, h1, h2⟩ := h
  exact (Array.getElem?_eq_some_iff.1 h1).1
theorem iseen_und : Tryz.prog.underlying 75 = some (.map 3 4) := by kernel_rfl
theorem iseen_look {W : World} {B : Nat} {L : List Int} (h : ISeen W B L) (z : Int) : (Instr.lookup 75 (.map (some B)) (.int .i64 z) false).run Tryz.prog W = .ok (.bool (decide (z ∈ L))) W := by
  obtain ⟨es, ck, hb, hk, hs⟩ := h
  have hkey : IsKey (.int .i64) (.int .i64 z) := rfl
  have hall : ∀ x ∈ es.toList, IsKey (.int .i64) x.key := fun x hx => by obtain ⟨y, hy, _⟩ := hk x hx; rw [hy]; rfl
  rcases findNow_spec hkey es.toList 0 hall with ⟨h1, h2⟩ | ⟨j, e, h1, h2, h3⟩
  · have hr : decide (z ∈ L) = false := by
      cases hq : decide (z ∈ L)
      · rfl
      · obtain ⟨e, he, hz⟩ := (hs z).2 (of_decide_eq_true hq)
        exact absurd hz (h2 e he)
    rw [hr]
    simp [Instr.lookup, run_underlying iseen_und, MapKept.run_getObj_map hb, run_checkKey Tryz.underlying3 hkey, run_findKey Tryz.underlying3 h1, Result.andThen]
  · have he : e ∈ es.toList := List.mem_of_getElem? h2
    obtain ⟨y, hy, hv⟩ := hk e he
    have hr : decide (z ∈ L) = true := decide_eq_true ((hs z).1 ⟨e, he, h3⟩)
    rw [hr]
    simp [Instr.lookup, run_underlying iseen_und, MapKept.run_getObj_map hb, run_checkKey Tryz.underlying3 hkey, run_findKey Tryz.underlying3 h1, hv, Result.andThen]
theorem iseen_put {W : World} {B : Nat} {L : List Int} (h : ISeen W B L) (r : Int) (hr : ¬ r ∈ L) :
    ∃ W', (Instr.mapUpdate 75 (.map (some B)) (.int .i64 r) (.bool true)).run Tryz.prog W = .ok () W' ∧ ISeen W' B (r :: L) ∧ W.grownBy W' (some B) := by
  obtain ⟨es, ck, hb, hk, hs⟩ := h
  have hkey : IsKey (.int .i64) (.int .i64 r) := rfl
  have hall : ∀ x ∈ es.toList, IsKey (.int .i64) x.key := fun x hx => by obtain ⟨y, hy, _⟩ := hk x hx; rw [hy]; rfl
  rcases findNow_spec hkey es.toList 0 hall with ⟨h1, h2⟩ | ⟨j, e, h1, h2, h3⟩
  · refine ⟨W.putObj B (.map (es.push { key := .int .i64 r, val := .bool true, born := ck }) (ck + 1)), ?_, ⟨_, _, World.putObj_heap_same (Array.getElem?_eq_some_iff.1 hb).1, ?_, ?_⟩, grownBy_putObj' W B _⟩
    · simp [Instr.mapUpdate, run_underlying iseen_und, MapKept.run_getObj_map hb, run_checkKey Tryz.underlying3 hkey, run_findKey Tryz.underlying3 h1, run_setObj_map _ hb, Result.andThen, World.putObj]
    · intro x hx
      simp only [Array.toList_push, List.mem_append, List.mem_singleton] at hx
      rcases hx with hx | rfl
      · exact hk x hx
      · exact ⟨_, rfl, rfl⟩
    · intro z
      rw [List.mem_cons, ← hs z]
      simp only [Array.toList_push, List.mem_append, List.mem_singleton]
      constructor
      · rintro ⟨x, hx | rfl, hz⟩
        · exact .inr ⟨x, hx, hz⟩
        · exact .inl (by cases hz; rfl)
      · rintro (rfl | ⟨x, hx, hz⟩)
        · exact ⟨_, .inr rfl, rfl⟩
        · exact ⟨x, .inl hx, hz⟩
  · exact absurd ((hs r).1 ⟨e, List.mem_of_getElem? h2, h3⟩) hr
abbrev iseenT (mb : Nat) (Sn : List Int) : Thing := .any (fun b => b = mb) (fun W => ISeen W mb Sn)
theorem iseen_holds {B mb : Nat} {W : World} {Sn : List Int} (h : ISeen W mb Sn) (hb : B ≤ mb) : (iseenT mb Sn).holds B W :=
  ⟨h, fun b e => by subst e; exact ⟨hb, h.lt⟩, fun _ _ h1 _ hs => h1.on (hs mb rfl)⟩
section
variable {w W : World} {T : List Thing} {mb : Nat} {Sn : List Int}
theorem env_iseen (K : Env w W T) (i : Nat) (h : T[i]? = some (iseenT mb Sn)) : ISeen W mb Sn := (K.at' i h).1
theorem env_iput (K : Env w W T) (i : Nat) (h : T[i]? = some (iseenT mb Sn)) {p : Int} (hp : ¬ p ∈ Sn) :
    ∃ W', (Instr.mapUpdate 75 (.map (some mb)) (.int .i64 p) (.bool true)).run Tryz.prog W = .ok () W' ∧ Env w W' (T.set i (iseenT mb (p :: Sn))) ∧ ∀ F, Keep w F W T W' (T.set i (iseenT mb (p :: Sn))) := by
  obtain ⟨W', hr, hs', hg⟩ := iseen_put (env_iseen K i h) p hp
  have hb : w.heap.size ≤ mb := (((K.at' i h).2.1) mb rfl).1
  have := K.change (y := iseenT mb (p :: Sn)) i h (Chg.grown hg rfl) (iseen_holds hs' hb) (fun g e => .inl e)
  exact ⟨W', hr, this.1, this.2⟩
/-- a new map -/
theorem env_imap (K : Env w W T) : Env w (W.alloc (.map #[] 0)) (iseenT W.heap.size [] :: T) :=
  K.cons ((Below.refl _ _).alloc (Nat.le_refl _) _) (iseen_holds (ISeen.new (heap_alloc_new W _)) K.hb.size) (fun g hg => by have : g = W.heap.size := hg; omega)
end
end Go.Proofs.YtnmhnjjehglcfaaGreat.Ents
