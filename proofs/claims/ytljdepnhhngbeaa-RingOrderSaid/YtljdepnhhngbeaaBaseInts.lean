
/- Lists of numbers as rows of numbers: their fronts and backs, and the append of a list to one that the call owns. -/
import Derived.Test.YtljdepnhhngbeaaIntIs
import Derived.Test.YtljdepnhhngbeaaBaseRows
namespace Go.Proofs.Ytljdepnhhngbeaa.Ents
open Go.RowKit Plan EntMath Rws
def IR : Row Int := ⟨3, 36, 1, 8, .int .i64 0, fun z => [.int .i64 z]⟩
theorem irOk : IR.Ok := ⟨fun _ => rfl, fun e u hu => by simp only [IR, List.mem_cons, List.not_mem_nil, or_false] at hu; subst hu; rfl, by decide, by kernel_rfl, rfl, Try.underlying36, by decide⟩
theorem ir_all (L : List Int) : IR.all L = intC L := by
  induction L with
  | nil => rfl
  | cons x r ih =>
    rw [show IR.all (x :: r) = IR.c x ++ IR.all r from rfl, ih]
    rfl
section
variable {w : World} {F : Nat → Prop} {a : Option Addr} {n c : Nat} {L : List Int}
theorem IList.rows (h : IList w F a n c L) : TList IR w F a n c L := by
  rcases h with h | ⟨x, h1, h2, h3, h4, h5, h6, h7⟩
  · exact .inl h
  · exact .inr ⟨x, h1, h2, h3, h4, h5, h6, by rw [ir_all]; exact intC_cell h7⟩
theorem ilist_of (h : TList IR w F a n c L) : IList w F a n c L := by
  rcases h with h | ⟨x, h1, h2, h3, h4, h5, h6, h7⟩
  · exact .inl h
  · exact .inr ⟨x, h1, h2, h3, h4, h5, h6, fun j z hz => h7 j _ (by rw [ir_all]; exact intC_at hz)⟩
theorem IList.front (h : IList w F a n c L) (k : Nat) (hk : k ≤ n) : IList w F a k c (L.take k) := ilist_of (h.rows.front irOk k hk)
theorem IList.back {x : Addr} (h : IList w F (some x) n c L) (k : Nat) (hk : k ≤ n) (hn : 0 < n) : IList w F (some (x.add k)) (n - k) (c - k) (L.drop k) := by
  have h1 := h.rows.back irOk k hk hn
  rw [show k * IR.sz = k from Nat.mul_one k] at h1
  exact ilist_of h1
end
theorem append_ints {w : World} {F : Nat → Prop} {ops : Array Oper} {rest : List Oper} {o : Oper} {a : Act} {Q : Exit → Act → World → Prop} (hgd : o.guard = none) (s x : Operand)
    (ho : o.op = .call { callee := .builtin .append, args := #[s, x], argTypes := #[36, 36] })
    (base : Nat) (v : Value) (m0 : Nat) (M : List Int) (hs : a.eval s = v) (hown : w.ownsRow base 3 1 v m0 (intC M)) (sa : Option Addr) (m c : Nat) (L : List Int) (hx : a.eval x = .slice sa m c) (hl : IList w F sa m c L) (hm : m0 + m ≤ 1000000) (hbase : base ≤ w.heap.size)
    (h : ∀ v' w', w'.ownsRow base 3 1 v' (m0 + m) (intC (M ++ L)) → w.grownBy w' v.ownBlock → wpList Try.prog ops Q rest (a.put o.dst v') w') : wpList Try.prog ops Q (o :: rest) a w :=
  append_list (F := F) irOk hgd s x ho base v m0 M hs (by rw [ir_all]; exact hown) sa m c L hx hl.rows hm hbase (fun v' w' h1 h2 => h v' w' (by rw [ir_all] at h1; exact h1) h2)
end Go.Proofs.Ytljdepnhhngbeaa.Ents
