/- Texts that belong together, part 11. -/
import Derived.Test.YthhggiifbldaeaaPack10

/- Locks in memory; the walks of the document's Valid, Free, set, Take, Give of locks. -/
namespace Go.Proofs.Ythhggiifbldaeaa.Ents
open Go.RowKit Plan EntMath CntMath LckMath
abbrev lckV (a : Option Addr) (n c : Nat) : Value := .agg #[.slice a n c]
abbrev lckRow (a : Option Addr) (n c : Nat) : Obj := .cells #[.slice a n c] 36
theorem lck_info : (Try.prog.info? 36).map (·.size) = some 1 := by kernel_rfl
theorem one_row {w : World} {g : Nat} {a : Value} {t : TypeId} {fr : Nat × Nat} (h : w.heap[g]? = some (.cells #[a] t fr)) : w.cell? ⟨g, 0, none⟩ = some a := cell_of_row _ _ 0 _ _ _ h
end Go.Proofs.Ythhggiifbldaeaa.Ents

/- The walks of the document's Free, set, Take, Give of locks. -/
namespace Go.Proofs.Ythhggiifbldaeaa.Ents
open Go.RowKit Plan EntMath CntMath LckMath
theorem lck_at {w : World} {F : Nat → Prop} {O : List Int} {s : Int} {a : Option Addr} {n c : Nat} (hl : IList w F a n c O) (h : inK O s = true) : ∃ k : Nat, s = (k : Int) ∧ k < n ∧ n ≤ 8 ∧ ∃ x z, a = some x ∧ O[k]? = some z ∧ w.cell? (x.add k) = some (.int .i64 z) := by
  obtain ⟨hv, h0, h1⟩ := in_k.1 h
  have hvv := valid_k.1 hv
  have hln := hl.length
  obtain ⟨k, rfl⟩ : ∃ k : Nat, s = (k : Int) := ⟨s.toNat, by omega⟩
  have hk : k < n := by omega
  obtain ⟨x, z, hx, hz, hc⟩ := hl.at' k hk
  exact ⟨k, rfl, hk, by omega, x, z, hx, hz, hc⟩
theorem in_three {O : List Int} {s : Int} {n : Nat} (hn : O.length = n) (h : inK O s = false) : validK O = false ∨ (validK O = true ∧ s < 0) ∨ (validK O = true ∧ 0 ≤ s ∧ (n : Int) ≤ s) := by
  cases hv : validK O
  · exact .inl rfl
  · by_cases h0 : 0 ≤ s
    · by_cases h1 : (n : Int) ≤ s
      · exact .inr (.inr ⟨rfl, h0, h1⟩)
      · rw [in_k.2 ⟨hv, h0, by omega⟩] at h
        cases h
    · exact .inr (.inl ⟨rfl, by omega⟩)
end Go.Proofs.Ythhggiifbldaeaa.Ents

/- The walks of the document's Take and Give of locks. -/
namespace Go.Proofs.Ythhggiifbldaeaa.Ents
open Go.RowKit Plan EntMath CntMath LckMath
/-- what a function that changes locks leaves -/
def LckPost (w : World) (F : Nat → Prop) (O : List Int) (B : Bool) (r : Ending) (w' : World) : Prop :=
  ∃ a n c, r = .returned (.tuple #[lckV a n c, .bool B]) ∧ IList w' (Plus F w.heap.size) a n c O ∧ Below w.heap.size w w'
end Go.Proofs.Ythhggiifbldaeaa.Ents

/- The walk of the document's Of of counters. -/
namespace Go.Proofs.Ythhggiifbldaeaa.Ents
open Go.RowKit Plan EntMath CntMath
abbrev intRow (Z : List Int) : Obj := .cells (intC Z).toArray 3
theorem zero_row (n : Nat) : zeroRow n = intRow (List.replicate n 0) := by
  have h : madeCells #[(.int .i64 0 : Value)] n = (intC (List.replicate n 0)).toArray := by
    refine Array.ext_getElem? fun j => ?_
    rcases Nat.lt_or_ge j n with hj | hj
    · rw [made_zero default hj, List.getElem?_toArray, intC_at (z := 0) (by rw [List.getElem?_replicate, if_pos hj])]
    · have h1 : (madeCells #[(.int .i64 0 : Value)] n).size = n := by simp [madeCells]
      rw [Array.getElem?_eq_none (by omega), Array.getElem?_eq_none (by simp [intC]; omega)]
  unfold zeroRow intRow
  rw [h]
theorem row_ilist {w : World} {F : Nat → Prop} {g n : Nat} {Z : List Int} (h : w.heap[g]? = some (intRow Z)) (hZ : Z.length = n) (hn : n ≤ maxLen) (hF : F g) : IList w F (some ⟨g, 0, none⟩) n n Z := by
  refine .inr ⟨_, rfl, Nat.le_refl _, hn, hZ, e_lt h, hF, fun j z hz => ?_⟩
  have h2 := cell_of_row w g j _ _ _ h
  rw [List.getElem?_toArray, intC_at hz] at h2
  rw [Addr.add_lit, Nat.zero_add]
  exact h2
theorem in_next {z : Int} {L : List Ent} {j : Nat} {e : Ent} (h : L[j]? = some e) (hi : inZ z (L.take j) = true) (he : 0 ≤ e.zone ∧ e.zone < z) : inZ z (L.take (j + 1)) = true := by
  unfold inZ at *
  rw [List.take_add_one, h, List.all_append, hi]
  simp [he.1, he.2]
theorem in_not {z : Int} {L : List Ent} {j : Nat} {e : Ent} (h : L[j]? = some e) (he : ¬ (0 ≤ e.zone ∧ e.zone < z)) : inZ z L = false := by
  cases hi : inZ z L
  · rfl
  · unfold inZ at hi
    have := List.all_eq_true.1 hi e (List.mem_of_getElem? h)
    simp only [Bool.and_eq_true, decide_eq_true_eq] at this
    exact absurd this he
/-- what Of leaves -/
def COfPost (w : World) (z : Int) (L : List Ent) (r : Ending) (w' : World) : Prop :=
  ∃ a n c a2 n2 c2, r = .returned (.tuple #[cntV a n c a2 n2 c2, .bool (ofB z L)]) ∧ CList w' (fun b => w.heap.size ≤ b) a n c a2 n2 c2 (ofC z L) ∧ Below w.heap.size w w'
end Go.Proofs.Ythhggiifbldaeaa.Ents

/- What the program's counters are to do, in the words of the contracts of the document's own; the walk of the law's agree under it. -/
namespace Go.Proofs.Ythhggiifbldaeaa.Ents
open Go.RowKit Plan EntMath CntMath
theorem heap3 (w : World) (p q r : Obj) : (((w.alloc p).alloc q).alloc r).heap[w.heap.size]? = some p ∧ (((w.alloc p).alloc q).alloc r).heap[w.heap.size + 1]? = some q ∧ (((w.alloc p).alloc q).alloc r).heap[w.heap.size + 2]? = some r := by
  have h3 := heap_alloc_new ((w.alloc p).alloc q) r
  rw [show ((w.alloc p).alloc q).heap.size = w.heap.size + 2 from by simp] at h3
  exact ⟨e_al (heap_first w p q) r, e_al (heap_second w p q) r, h3⟩
end Go.Proofs.Ythhggiifbldaeaa.Ents

/- The walks of the law's awake and of LiveRaw, under the program's contracts. -/
namespace Go.Proofs.Ythhggiifbldaeaa.Ents
open Go.RowKit Plan EntMath CntMath
abbrev six0 : Cnt := ⟨[0, 0, 0, 0, 0, 0], [0, 0, 0, 0, 0, 0]⟩
abbrev six2 : Cnt := ⟨[0, 0, 1, 0, 0, 0], [0, 0, 0, 0, 0, 0]⟩
abbrev six5 : Cnt := ⟨[0, 0, 0, 0, 0, 1], [0, 0, 0, 0, 0, 0]⟩
theorem aw_cnew : newC 6 = six0 ∧ newCE 6 = 0 := by decide
theorem aw_chg1 : changeC six0 0 2 false true = six2 ∧ changeB six0 0 2 false true = true := by decide
theorem aw_chg2 : changeC six2 2 5 true true = six5 ∧ changeB six2 2 5 true true = true := by decide
theorem aw_chg3 : changeC six5 2 5 true true = six5 ∧ changeB six5 2 5 true true = false := by decide
end Go.Proofs.Ythhggiifbldaeaa.Ents

/- The walk of LivePending, under the program's contracts. -/
namespace Go.Proofs.Ythhggiifbldaeaa.Ents
open Go.RowKit Plan EntMath CntMath
theorem pend_has {n j q : Nat} {K : List Int} (hn1 : 1 ≤ n) (hn2 : n ≤ 32) (hK : K.length = n) (hb : ∀ z ∈ K, 0 ≤ z ∧ z ≤ (j : Int)) (hj : j ≤ 100) (hq : q < n) : hasC ⟨List.replicate n 0, K⟩ (q : Int) = true := by
  refine has_c.2 ⟨valid_c.2 ⟨⟨by simp [hK], by simpa using hn1, by simpa using hn2⟩, fun z hz => ?_, fun z hz => ?_⟩, by omega, by simpa using hq⟩
  · have := List.eq_of_mem_replicate hz
    omega
  · have := hb z hz
    omega
theorem pend_begin {n j q : Nat} {K : List Int} {y : Int} (hn1 : 1 ≤ n) (hn2 : n ≤ 32) (hK : K.length = n) (hb : ∀ z ∈ K, 0 ≤ z ∧ z ≤ (j : Int)) (hj : j ≤ 100) (hy : K[q]? = some y) : beginB ⟨List.replicate n 0, K⟩ (q : Int) = true ∧ beginC ⟨List.replicate n 0, K⟩ (q : Int) = ⟨List.replicate n 0, K.set q (y + 1)⟩ := by
  have hq : q < n := by have := (List.getElem?_eq_some_iff.1 hy).1; omega
  have hyb := hb y (List.mem_of_getElem? hy)
  obtain ⟨h1, h2⟩ := begin_is (pend_has hn1 hn2 hK hb hj hq) hy
  rw [h1, h2, if_neg (by omega), plus_is hy]
  exact ⟨by simp; omega, rfl⟩
theorem set_same {K : List Int} {q : Nat} {y : Int} (hy : K[q]? = some y) : K.set q y = K := by
  refine List.ext_getElem? fun i => ?_
  rw [List.getElem?_set]
  split
  · rename_i h
    subst h
    rw [if_pos (List.getElem?_eq_some_iff.1 hy).1, hy]
  · rfl
theorem pend_end {n j q : Nat} {K : List Int} {y : Int} (hn1 : 1 ≤ n) (hn2 : n ≤ 32) (hK : K.length = n) (hb : ∀ z ∈ K, 0 ≤ z ∧ z ≤ (j : Int)) (hj : j ≤ 100) (hy : K[q]? = some y) : endB ⟨List.replicate n 0, K⟩ (q : Int) = decide (0 < y) ∧ endC ⟨List.replicate n 0, K⟩ (q : Int) = ⟨List.replicate n 0, K.set q (max 0 (y - 1))⟩ := by
  have hq : q < n := by have := (List.getElem?_eq_some_iff.1 hy).1; omega
  have hyb := hb y (List.mem_of_getElem? hy)
  obtain ⟨h1, h2⟩ := end_is (pend_has hn1 hn2 hK hb hj hq) hy
  rw [h1, h2]
  refine ⟨decide_eq_decide.2 (by omega), ?_⟩
  by_cases h0 : y = 0
  · subst h0
    rw [if_pos rfl, show max (0 : Int) (0 - 1) = 0 from rfl, set_same hy]
  · rw [if_neg h0, plus_is hy, show max (0 : Int) (y - 1) = y + -1 from by omega]
theorem set_bound {K : List Int} {j q : Nat} {y : Int} (hb : ∀ z ∈ K, 0 ≤ z ∧ z ≤ (j : Int)) (hy : 0 ≤ y ∧ y ≤ (j : Int) + 1) : ∀ z ∈ K.set q y, 0 ≤ z ∧ z ≤ ((j + 1 : Nat) : Int) := by
  intro z hz
  rcases List.mem_or_eq_of_mem_set hz with h | rfl
  · have := hb z h
    omega
  · omega
theorem store_int_c {ops : Array Oper} {rest : List Oper} {a : Act} {w : World} {Q : Exit → Act → World → Prop} (ty : TypeId) (x y : Operand) {t' : TypeId} {pos : String} {after : Array Edge}
    (b o : Nat) (k : IntKind) (n : Int) (hx : a.eval x = .pointer (some ⟨b, o, none⟩)) (hy : a.eval y = .int k n) (hc : ∃ u, w.cell? ⟨b, o, none⟩ = some u) (hf : w.frozen? ⟨b, o, none⟩ = false) (hi : (Try.prog.info? ty).map (·.size) = some 1)
    (h : wpList Try.prog ops Q rest (a.put none undef) (w.setCell ⟨b, o, none⟩ (.int k n))) : wpList Try.prog ops Q (⟨none, .store ty x y, t', pos, after, none⟩ :: rest) a w :=
  wpList_plain rfl fun _ hK => Put.wp_store_int ty x y rfl b o k n hx hy hc hf hi (hK _ _ h)
theorem row_cell {w : World} {g q : Nat} {K : List Int} {y : Int} (h : w.heap[g]? = some (intRow K)) (hy : K[q]? = some y) : w.cell? ⟨g, q, none⟩ = some (.int .i64 y) := by
  have h2 := cell_of_row w g q _ _ _ h
  rw [List.getElem?_toArray, intC_at hy] at h2
  exact h2
theorem byte_at {w W : World} {a : Option Addr} {l c : Nat} {zs : List Int} (h : IsRow .u8 w a l c zs) (hb : Below w.heap.size w W) {i : Nat} (hi : i < l) : ∃ x B, a = some x ∧ W.cell? (x.add i) = some (.int .u8 B) ∧ 0 ≤ B ∧ B ≤ 255 := by
  rcases h with ⟨_, rfl, _⟩ | ⟨x, hx, h1, _, h2, h3, h4⟩
  · omega
  · have hc := h3 i (by omega)
    have hw : (Lit.int .u8 (zs.getD i 0)).wf = true := h4 _ (by
      rw [List.getD_eq_getElem?_getD, List.getElem?_eq_getElem (by omega)]
      exact List.getElem_mem _)
    have hr : 0 ≤ zs.getD i 0 ∧ zs.getD i 0 ≤ 255 := by
      have e1 : IntKind.u8.min = 0 := rfl
      have e2 : IntKind.u8.max = 255 := rfl
      simp only [Lit.wf, decide_eq_true_eq, Bool.and_eq_true] at hw
      omega
    exact ⟨x, zs.getD i 0, hx, (hb.cell (p := x.add i) (by first | exact Go.RowKit.block_lt_of_cell hc | exact block_lt_of_cell hc | exact World.block_lt_of_cell? _ hc | exact World.block_lt_of_cell? _ _ hc)).trans hc, hr⟩
end Go.Proofs.Ythhggiifbldaeaa.Ents
