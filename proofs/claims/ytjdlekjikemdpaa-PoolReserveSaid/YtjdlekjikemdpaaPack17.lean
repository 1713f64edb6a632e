/- Texts that belong together, part 17. -/
import Derived.Test.YtjdlekjikemdpaaPack16

/- The walks of the law's awake and of LiveRaw, under the program's contracts. -/
namespace Go.Proofs.Ytjdlekjikemdpaa.Ents
open Go.RowKit Plan EntMath CntMath
abbrev six0 : Cnt := ⟨[0, 0, 0, 0, 0, 0], [0, 0, 0, 0, 0, 0]⟩
abbrev six2 : Cnt := ⟨[0, 0, 1, 0, 0, 0], [0, 0, 0, 0, 0, 0]⟩
abbrev six5 : Cnt := ⟨[0, 0, 0, 0, 0, 1], [0, 0, 0, 0, 0, 0]⟩
theorem aw_cnew : newC 6 = six0 ∧ newCE 6 = 0 := by decide
theorem aw_chg1 : changeC six0 0 2 false true = six2 ∧ changeB six0 0 2 false true = true := by decide
theorem aw_chg2 : changeC six2 2 5 true true = six5 ∧ changeB six2 2 5 true true = true := by decide
theorem aw_chg3 : changeC six5 2 5 true true = six5 ∧ changeB six5 2 5 true true = false := by decide
end Go.Proofs.Ytjdlekjikemdpaa.Ents

/- The walk of LivePending, under the program's contracts. -/
namespace Go.Proofs.Ytjdlekjikemdpaa.Ents
open Go.RowKit Plan EntMath CntMath
theorem pend_has {n j q : Nat} {K : List Int} (hn1 : 1 ≤ n) (hn2 : n ≤ 32) (hK : K.length = n) (hb : ∀ z ∈ K, 0 ≤ z ∧ z ≤ (j : Int)) (hj : j ≤ 100) (hq : q < n) : hasC ⟨List.replicate n 0, K⟩ (q : Int) = true := by
  refine has_c.2 ⟨valid_c.2 ⟨⟨by simp [hK], by simpa using hn1, by simpa using hn2⟩, fun z hz => ?_, fun z hz => ?_⟩, by omega, by simpa using hq⟩
  · have := List.eq_of_mem_replicate hz
    omega
  · have := hb z hz
    omega
theorem pend_begin {n j q : Nat} {K : List Int} {y : Int} (hn1 : 1 ≤ n) (hn2 : n ≤ 32) (hK : K.length = n) (hb : ∀ z ∈ K, 0 ≤ z ∧ z ≤ (j : Int)) (hj : j ≤ 100) (hy : K[q]? = some y) : beginB ⟨List.replicate n 0, K⟩ (q : Int) = true ∧ beginC ⟨List.replicate n 0, K⟩ (q : Int) = ⟨List.replicate n 0, K.set q (y + 1)⟩ := by
  have hq : q < n := by have := (List.getElem?_eq_some_iff.1 hy).1; omega
  have hyb := hb y (List.mem_of_getElem? hy)
  obtain ⟨h1, h2⟩ := begin_is (pend_has hn1 hn2 hK hb hj hq) hy
  rw [h1, h2, if_neg (by omega), plus_is hy]
  exact ⟨by simp; omega, rfl⟩
theorem set_same {K : List Int} {q : Nat} {y : Int} (hy : K[q]? = some y) : K.set q y = K := by
  refine List.ext_getElem? fun i => ?_
  rw [List.getElem?_set]
  split
  · rename_i h
    subst h
    rw [if_pos (List.getElem?_eq_some_iff.1 hy).1, hy]
  · rfl
theorem pend_end {n j q : Nat} {K : List Int} {y : Int} (hn1 : 1 ≤ n) (hn2 : n ≤ 32) (hK : K.length = n) (hb : ∀ z ∈ K, 0 ≤ z ∧ z ≤ (j : Int)) (hj : j ≤ 100) (hy : K[q]? = some y) : endB ⟨List.replicate n 0, K⟩ (q : Int) = decide (0 < y) ∧ endC ⟨List.replicate n 0, K⟩ (q : Int) = ⟨List.replicate n 0, K.set q (max 0 (y - 1))⟩ := by
  have hq : q < n := by have := (List.getElem?_eq_some_iff.1 hy).1; omega
  have hyb := hb y (List.mem_of_getElem? hy)
  obtain ⟨h1, h2⟩ := end_is (pend_has hn1 hn2 hK hb hj hq) hy
  rw [h1, h2]
  refine ⟨decide_eq_decide.2 (by omega), ?_⟩
  by_cases h0 : y = 0
  · subst h0
    rw [if_pos rfl, show max (0 : Int) (0 - 1) = 0 from rfl, set_same hy]
  · rw [if_neg h0, plus_is hy, show max (0 : Int) (y - 1) = y + -1 from by omega]
theorem set_bound {K : List Int} {j q : Nat} {y : Int} (hb : ∀ z ∈ K, 0 ≤ z ∧ z ≤ (j : Int)) (hy : 0 ≤ y ∧ y ≤ (j : Int) + 1) : ∀ z ∈ K.set q y, 0 ≤ z ∧ z ≤ ((j + 1 : Nat) : Int) := by
  intro z hz
  rcases List.mem_or_eq_of_mem_set hz with h | rfl
  · have := hb z h
    omega
  · omega
theorem store_int_c {ops : Array Oper} {rest : List Oper} {a : Act} {w : World} {Q : Exit → Act → World → Prop} (ty : TypeId) (x y : Operand) {t' : TypeId} {pos : String} {after : Array Edge}
    (b o : Nat) (k : IntKind) (n : Int) (hx : a.eval x = .pointer (some ⟨b, o, none⟩)) (hy : a.eval y = .int k n) (hc : ∃ u, w.cell? ⟨b, o, none⟩ = some u) (hf : w.frozen? ⟨b, o, none⟩ = false) (hi : (Try.prog.info? ty).map (·.size) = some 1)
    (h : wpList Try.prog ops Q rest (a.put none undef) (w.setCell ⟨b, o, none⟩ (.int k n))) : wpList Try.prog ops Q (⟨none, .store ty x y, t', pos, after, none⟩ :: rest) a w :=
  wpList_plain rfl fun _ hK => Put.wp_store_int ty x y rfl b o k n hx hy hc hf hi (hK _ _ h)
theorem row_cell {w : World} {g q : Nat} {K : List Int} {y : Int} (h : w.heap[g]? = some (intRow K)) (hy : K[q]? = some y) : w.cell? ⟨g, q, none⟩ = some (.int .i64 y) := by
  have h2 := cell_of_row w g q _ _ _ h
  rw [List.getElem?_toArray, intC_at hy] at h2
  exact h2
theorem byte_at {w W : World} {a : Option Addr} {l c : Nat} {zs : List Int} (h : IsRow .u8 w a l c zs) (hb : Below w.heap.size w W) {i : Nat} (hi : i < l) : ∃ x B, a = some x ∧ W.cell? (x.add i) = some (.int .u8 B) ∧ 0 ≤ B ∧ B ≤ 255 := by
  rcases h with ⟨_, rfl, _⟩ | ⟨x, hx, h1, _, h2, h3, h4⟩
  · omega
  · have hc := h3 i (by omega)
    have hw : (Lit.int .u8 (zs.getD i 0)).wf = true := h4 _ (by
      rw [List.getD_eq_getElem?_getD, List.getElem?_eq_getElem (by omega)]
      exact List.getElem_mem _)
    have hr : 0 ≤ zs.getD i 0 ∧ zs.getD i 0 ≤ 255 := by
      have e1 : IntKind.u8.min = 0 := rfl
      have e2 : IntKind.u8.max = 255 := rfl
      simp only [Lit.wf, decide_eq_true_eq, Bool.and_eq_true] at hw
      omega
    exact ⟨x, zs.getD i 0, hx, (hb.cell (p := x.add i) (by first | exact Go.RowKit.block_lt_of_cell hc | exact block_lt_of_cell hc | exact World.block_lt_of_cell? _ hc | exact World.block_lt_of_cell? _ _ hc)).trans hc, hr⟩
end Go.Proofs.Ytjdlekjikemdpaa.Ents

/- Lists of numbers as rows of numbers: their fronts and backs, and the append of a list to one that the call owns. -/
namespace Go.Proofs.Ytjdlekjikemdpaa.Ents
open Go.RowKit Plan EntMath Rws
def IR : Row Int := ⟨3, 22, 1, 8, .int .i64 0, fun z => [.int .i64 z]⟩
theorem irOk : IR.Ok := ⟨fun _ => rfl, fun e u hu => by simp only [IR, List.mem_cons, List.not_mem_nil, or_false] at hu; subst hu; rfl, by decide, by kernel_rfl, rfl, Try.underlying22, by decide⟩
theorem ir_all (L : List Int) : IR.all L = intC L := by
  induction L with
  | nil => rfl
  | cons x r ih =>
    rw [show IR.all (x :: r) = IR.c x ++ IR.all r from rfl, ih]
    rfl
section
variable {w : World} {F : Nat → Prop} {a : Option Addr} {n c : Nat} {L : List Int}
theorem IList.rows (h : IList w F a n c L) : TList IR w F a n c L := by
  rcases h with h | ⟨x, h1, h2, h3, h4, h5, h6, h7⟩
  · exact .inl h
  · exact .inr ⟨x, h1, h2, h3, h4, h5, h6, by rw [ir_all]; exact intC_cell h7⟩
theorem ilist_of (h : TList IR w F a n c L) : IList w F a n c L := by
  rcases h with h | ⟨x, h1, h2, h3, h4, h5, h6, h7⟩
  · exact .inl h
  · exact .inr ⟨x, h1, h2, h3, h4, h5, h6, fun j z hz => h7 j _ (by rw [ir_all]; exact intC_at hz)⟩
theorem IList.front (h : IList w F a n c L) (k : Nat) (hk : k ≤ n) : IList w F a k c (L.take k) := ilist_of (h.rows.front irOk k hk)
theorem IList.back {x : Addr} (h : IList w F (some x) n c L) (k : Nat) (hk : k ≤ n) (hn : 0 < n) : IList w F (some (x.add k)) (n - k) (c - k) (L.drop k) := by
  have h1 := h.rows.back irOk k hk hn
  rw [show k * IR.sz = k from Nat.mul_one k] at h1
  exact ilist_of h1
end
theorem append_ints {w : World} {F : Nat → Prop} {ops : Array Oper} {rest : List Oper} {o : Oper} {a : Act} {Q : Exit → Act → World → Prop} (hgd : o.guard = none) (s x : Operand)
    (ho : o.op = .call { callee := .builtin .append, args := #[s, x], argTypes := #[22, 22] })
    (base : Nat) (v : Value) (m0 : Nat) (M : List Int) (hs : a.eval s = v) (hown : w.ownsRow base 3 1 v m0 (intC M)) (sa : Option Addr) (m c : Nat) (L : List Int) (hx : a.eval x = .slice sa m c) (hl : IList w F sa m c L) (hm : m0 + m ≤ 1000000) (hbase : base ≤ w.heap.size)
    (h : ∀ v' w', w'.ownsRow base 3 1 v' (m0 + m) (intC (M ++ L)) → w.grownBy w' v.ownBlock → wpList Try.prog ops Q rest (a.put o.dst v') w') : wpList Try.prog ops Q (o :: rest) a w :=
  append_list (F := F) irOk hgd s x ho base v m0 M hs (by rw [ir_all]; exact hown) sa m c L hx hl.rows hm hbase (fun v' w' h1 h2 => h v' w' (by rw [ir_all] at h1; exact h1) h2)
end Go.Proofs.Ytjdlekjikemdpaa.Ents
