/- Texts that belong together, part 11. -/
import Derived.Test.YtnmhnjjehglcfaaGreatPack10
import Derived.Laws.AppendOwn
import Derived.Deep.OwnRows

/- Histories: what the document's functions of layer 18 give, as plain functions of lists. -/
namespace Go.Proofs.YtnmhnjjehglcfaaGreat.HisMath
structure Ev where
  ret : Bool
  queue : Int
  serial : Int
  kind : Int
  block : Int
  data : ByteArray
  err : Int
  res : ByteArray
deriving DecidableEq
def seek (p : Ev → Bool) (l : List Ev) : Int := match l.findIdx? p with | some i => (i : Int) | none => -1
def invP (s : Int) (x : Ev) : Bool := !x.ret && decide (x.serial = s)
def retP (s : Int) (x : Ev) : Bool := x.ret && decide (x.serial = s)
def invI (l : List Ev) (s : Int) : Int := seek (invP s) l
def retI (l : List Ev) (s : Int) : Int := seek (retP s) l
def fitsB (kind err : Int) (n : Nat) : Bool :=
  if err = 0 then (if kind = 1 then decide (n = 16) else decide (n = 0))
  else if err = 7 ∨ err = 1 ∨ err = 2 ∨ err = 3 ∨ err = 12 then decide (n = 0) else false
def beforeB (l : List Ev) (a b : Int) : Bool := decide (0 ≤ retI l a) && decide (0 ≤ invI l b) && decide (retI l a < invI l b)
theorem seek_at {p : Ev → Bool} {l : List Ev} {j : Nat} {e : Ev} (h : l[j]? = some e) (hp : p e = true) (hb : ∀ i x, i < j → l[i]? = some x → p x = false) : seek p l = (j : Int) := by
  obtain ⟨hj, he⟩ := List.getElem?_eq_some_iff.1 h
  have : l.findIdx? p = some j := by
    rw [List.findIdx?_eq_some_iff_getElem]
    refine ⟨hj, by rw [he]; exact hp, fun i hi => ?_⟩
    rw [hb i _ hi (List.getElem?_eq_getElem (by omega))]
    simp
  unfold seek
  rw [this]
theorem seek_none {p : Ev → Bool} {l : List Ev} (hb : ∀ i x, i < l.length → l[i]? = some x → p x = false) : seek p l = -1 := by
  have : l.findIdx? p = none := by
    rw [List.findIdx?_eq_none_iff]
    intro x hx
    obtain ⟨i, hi, rfl⟩ := List.mem_iff_getElem.1 hx
    exact hb i _ hi (List.getElem?_eq_getElem hi)
  unfold seek
  rw [this]
end Go.Proofs.YtnmhnjjehglcfaaGreat.HisMath

/- Lists of numbers that lie in memory, in the blocks of a set; lists of numbers that the call owns. -/
namespace Go.Proofs.YtnmhnjjehglcfaaGreat.Ents
open Go.RowKit Plan EntMath
def IList (w : World) (F : Nat → Prop) (a : Option Addr) (len cap : Nat) (Z : List Int) : Prop :=
  (True ∧ len = 0 ∧ cap = 0 ∧ Z = []) ∨
  ∃ x, a = some x ∧ len ≤ cap ∧ cap ≤ maxLen ∧ Z.length = len ∧ x.block < w.heap.size ∧ F x.block ∧ ∀ (j : Nat) z, Z[j]? = some z → w.cell? (x.add j) = some (.int .i64 z)
theorem IList.nil (w : World) (F : Nat → Prop) : IList w F none 0 0 [] := .inl ⟨trivial, rfl, rfl, rfl⟩
theorem IList.length {w : World} {F : Nat → Prop} {a : Option Addr} {n c : Nat} {Z : List Int} (h : IList w F a n c Z) : Z.length = n := by
  rcases h with ⟨_, rfl, _, rfl⟩ | ⟨x, _, _, _, h4, _⟩
  · rfl
  · exact h4
theorem IList.cap {w : World} {F : Nat → Prop} {a : Option Addr} {n c : Nat} {Z : List Int} (h : IList w F a n c Z) : n ≤ c ∧ c ≤ maxLen := by
  rcases h with ⟨_, rfl, rfl, rfl⟩ | ⟨x, _, h2, h3, _⟩
  · exact ⟨Nat.le_refl _, Nat.zero_le _⟩
  · exact ⟨h2, h3⟩
theorem IList.on {F : Nat → Prop} {w w' : World} {a : Option Addr} {n c : Nat} {Z : List Int} (h : IList w F a n c Z) (hw : Same F w w') : IList w' F a n c Z := by
  rcases h with h | ⟨x, h1, h2, h3, h4, h5, h6, h7⟩
  · exact .inl h
  · exact .inr ⟨x, h1, h2, h3, h4, Nat.lt_of_lt_of_le h5 hw.1, h6, fun j z hz => hw.cell (by rw [ent_add_block]; exact h6) (h7 j z hz)⟩
theorem IList.mono {F G : Nat → Prop} {w : World} {a : Option Addr} {n c : Nat} {Z : List Int} (h : IList w F a n c Z) (hFG : ∀ b, b < w.heap.size → F b → G b) : IList w G a n c Z := by
  rcases h with h | ⟨x, h1, h2, h3, h4, h5, h6, h7⟩
  · exact .inl h
  · exact .inr ⟨x, h1, h2, h3, h4, h5, hFG _ h5 h6, h7⟩
theorem IList.cut {F : Nat → Prop} {w : World} {a : Option Addr} {n c : Nat} {Z : List Int} (h : IList w F a n c Z) : IList w (fun b => F b ∧ b < w.heap.size) a n c Z := h.mono fun _ hb hf => ⟨hf, hb⟩
theorem IList.low {F : Nat → Prop} {w : World} {a : Option Addr} {n c : Nat} {Z : List Int} (h : IList w F a n c Z) : IList w (fun b => b < w.heap.size) a n c Z := h.mono fun _ hb _ => hb
theorem IList.same {F : Nat → Prop} {w w' : World} {a : Option Addr} {n c : Nat} {Z : List Int} (h : IList w F a n c Z) (hb : Below w.heap.size w w') : IList w' (fun b => b < w.heap.size) a n c Z := h.low.on (Same.low hb)
theorem IList.at' {F : Nat → Prop} {w : World} {a : Option Addr} {n c : Nat} {Z : List Int} (h : IList w F a n c Z) (i : Nat) (hi : i < n) : ∃ x z, a = some x ∧ Z[i]? = some z ∧ w.cell? (x.add i) = some (.int .i64 z) := by
  have hl := h.length
  rcases h with ⟨_, rfl, _, _⟩ | ⟨x, h1, _, _, _, _, _, h7⟩
  · omega
  · have he : Z[i]? = some (Z[i]'(by omega)) := List.getElem?_eq_getElem _
    exact ⟨x, _, h1, he, h7 i _ he⟩
theorem IList.some' {F : Nat → Prop} {w : World} {a : Option Addr} {n c : Nat} {Z : List Int} (h : IList w F a n c Z) (hn : 0 < n) : ∃ x, a = some x ∧ x.block < w.heap.size ∧ ∀ (j : Nat) z, Z[j]? = some z → w.cell? (x.add j) = some (.int .i64 z) := by
  rcases h with ⟨_, rfl, _, _⟩ | ⟨x, h1, _, _, _, h5, _, h7⟩
  · omega
  · exact ⟨x, h1, h5, h7⟩
/-- a list of numbers as cells -/
def intC (Z : List Int) : List Value := Z.map fun z => .int .i64 z
theorem intC_at {Z : List Int} {j : Nat} {z : Int} (h : Z[j]? = some z) : (intC Z)[j]? = some (.int .i64 z) := by simp [intC, h]
theorem intC_cell {Z : List Int} {w : World} {x : Addr} (h : ∀ (j : Nat) z, Z[j]? = some z → w.cell? (x.add j) = some (.int .i64 z)) : ∀ j u, (intC Z)[j]? = some u → w.cell? (x.add j) = some u := by
  intro j u hu
  unfold intC at hu
  rw [List.getElem?_map] at hu
  cases hz : Z[j]? with
  | none => rw [hz] at hu; cases hu
  | some z =>
    rw [hz] at hu
    obtain rfl := Option.some.inj hu
    exact h j z hz
theorem int_info : (Tryz.prog.info? 3).map (fun i => (i.zero, i.size, i.bytes)) = some (some (.int .i64 0), 1, 8) := by kernel_rfl
end Go.Proofs.YtnmhnjjehglcfaaGreat.Ents

/- A list that is written out. -/
namespace Go.Proofs.YtnmhnjjehglcfaaGreat.Rws
open Ents
theorem lit_list {α : Type} {R : Row α} {w : World} {F : Nat → Prop} {g : Nat} {L : List α} {fr : Nat × Nat} (h : w.heap[g]? = some (.cells (R.all L).toArray R.et fr)) (hF : F g) (hn : L.length ≤ maxLen) : TList R w F (some ⟨g, 0, none⟩) L.length L.length L := by
  refine .inr ⟨_, rfl, Nat.le_refl _, hn, rfl, e_lt h, hF, fun j u hu => ?_⟩
  rw [Addr.add_lit, Nat.zero_add]
  exact (cell_of_row w g j _ _ _ h).trans (by rw [List.getElem?_toArray]; exact hu)
end Go.Proofs.YtnmhnjjehglcfaaGreat.Rws
namespace Go.Proofs.YtnmhnjjehglcfaaGreat.Ents
open Go.RowKit Plan Rws
theorem lit_off (x : Addr) (i : Nat) (hi : 0 < i) : x.add i = ⟨x.block, x.off + i, none⟩ := by
  obtain ⟨j, rfl⟩ : ∃ j, i = j + 1 := ⟨i - 1, by omega⟩
  have := ent_add_off x 0 j
  unfold Addr.add
  simp
end Go.Proofs.YtnmhnjjehglcfaaGreat.Ents

/- Counters in memory; the walks of the document's Valid, has, plus, Same, New of counters. -/
namespace Go.Proofs.YtnmhnjjehglcfaaGreat.Ents
open Go.RowKit Plan EntMath CntMath
/-- counters that lie in the blocks of a set -/
structure CList (w : World) (F : Nat → Prop) (a : Option Addr) (n c : Nat) (a2 : Option Addr) (n2 c2 : Nat) (C : Cnt) : Prop where
  l : IList w F a n c C.live
  p : IList w F a2 n2 c2 C.pend
theorem CList.on {F : Nat → Prop} {w w' : World} {a a2 : Option Addr} {n c n2 c2 : Nat} {C : Cnt} (h : CList w F a n c a2 n2 c2 C) (hw : Same F w w') : CList w' F a n c a2 n2 c2 C := ⟨h.l.on hw, h.p.on hw⟩
theorem CList.mono {F G : Nat → Prop} {w : World} {a a2 : Option Addr} {n c n2 c2 : Nat} {C : Cnt} (h : CList w F a n c a2 n2 c2 C) (hFG : ∀ b, b < w.heap.size → F b → G b) : CList w G a n c a2 n2 c2 C := ⟨h.l.mono hFG, h.p.mono hFG⟩
theorem CList.cut {F : Nat → Prop} {w : World} {a a2 : Option Addr} {n c n2 c2 : Nat} {C : Cnt} (h : CList w F a n c a2 n2 c2 C) : CList w (fun b => F b ∧ b < w.heap.size) a n c a2 n2 c2 C := ⟨h.l.cut, h.p.cut⟩
theorem CList.same {F : Nat → Prop} {w w' : World} {a a2 : Option Addr} {n c n2 c2 : Nat} {C : Cnt} (h : CList w F a n c a2 n2 c2 C) (hb : Below w.heap.size w w') : CList w' (fun b => b < w.heap.size) a n c a2 n2 c2 C := ⟨h.l.same hb, h.p.same hb⟩
end Go.Proofs.YtnmhnjjehglcfaaGreat.Ents
