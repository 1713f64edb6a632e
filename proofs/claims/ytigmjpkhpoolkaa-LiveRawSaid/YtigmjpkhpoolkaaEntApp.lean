
/- Appends to a list of entries that the call owns: a list, one entry; in a walk and in a region that draws its order. -/
import Derived.Test.YtigmjpkhpoolkaaEntFind
import Derived.Laws.AppendOwn
import Derived.Laws.AppendOwnNone
namespace Go.Proofs.Ytigmjpkhpoolkaa.Ents
open Go.RowKit Plan EntMath
theorem e_info : (Try.prog.info? 28).map (fun i => (i.zero, i.size, i.bytes)) = some (some (.agg #[.int .i64 0, .int .i64 0, .int .i64 0, .int .i64 0, .int .i64 0, .int .i64 0]), 6, 48) := by kernel_rfl
theorem e_grown (w : World) (r : Option Nat) : w.grownBy w r := ⟨rfl, rfl, rfl, Nat.le_refl _, fun _ _ _ => rfl⟩
theorem EList.news {w : World} {F : Nat → Prop} {ad : Addr} {len cap : Nat} {L : List Ent} (h : EList w F (some ad) len cap L) : ∀ j u, (ents L)[j]? = some u → w.cell? (ad.add j) = some u := by
  rcases h with ⟨_, _, _, rfl⟩ | ⟨x, h1, _, _, _, _, _, h7⟩
  · intro j u hu
    simp [ents] at hu
  · obtain rfl := Option.some.inj h1
    exact h7
theorem EList.none {w : World} {F : Nat → Prop} {len cap : Nat} {L : List Ent} (h : EList w F none len cap L) : len = 0 ∧ cap = 0 ∧ L = [] := by
  rcases h with ⟨_, h⟩ | ⟨x, h1, _⟩
  · exact h
  · cases h1
theorem wp_append_ents {F : Nat → Prop} {w : World} {o : Oper} {a : Act} {K : Act → World → Prop} {Q : Exit → Act → World → Prop} (s x : Operand)
    (ho : o.op = .call { callee := .builtin .append, args := #[s, x], argTypes := #[29, 29] })
    (base : Nat) (v : Value) (m0 : Nat) (M : List Ent) (hs : a.eval s = v) (hown : w.ownsRow base 28 6 v m0 (ents M)) (sa : Option Addr) (m c : Nat) (L : List Ent) (hx : a.eval x = .slice sa m c) (hl : EList w F sa m c L) (hm : m0 + m ≤ 1000000) (hbase : base ≤ w.heap.size)
    (h : ∀ v' w', w'.ownsRow base 28 6 v' (m0 + m) (ents (M ++ L)) → w.grownBy w' v.ownBlock → K (a.put o.dst v') w') : o.wp Try.prog a w K Q := by
  obtain ⟨i1, hi1, hy0, hy1, hy2⟩ := info_parts e_info
  cases sa with
  | none =>
    obtain ⟨rfl, rfl, rfl⟩ := hl.none
    have hrun := run_append_owned_none (P := Try.prog) (w := w) base 29 o.type 28 i1 6 Try.underlying29 hi1 v m0 (ents M) hown
    unfold Oper.wp
    simp [execOp, ho, resolve, invoke, builtin, hs, hx, hrun, Result.andThen]
    exact h v w (by rw [List.append_nil]; exact hown) (e_grown _ _)
  | some ad =>
    refine wp_append_own w s x 29 ho base 28 i1 _ 6 48 Try.underlying29 hi1 hy0 hy1 hy2 rfl (by decide) v m0 (ents M) hs hown ad m c (ents L) hx (by rw [ents_length, hl.length]) hl.news (ents_flat L) (by unfold maxLen; omega) (by omega) hbase ?_
    intro v' w' h1 h2 _
    rw [← ents_append] at h1
    exact h v' w' h1 h2
theorem append_ents {F : Nat → Prop} {w : World} {ops : Array Oper} {rest : List Oper} {o : Oper} {a : Act} {Q : Exit → Act → World → Prop} (hgd : o.guard = none) (s x : Operand)
    (ho : o.op = .call { callee := .builtin .append, args := #[s, x], argTypes := #[29, 29] })
    (base : Nat) (v : Value) (m0 : Nat) (M : List Ent) (hs : a.eval s = v) (hown : w.ownsRow base 28 6 v m0 (ents M)) (sa : Option Addr) (m c : Nat) (L : List Ent) (hx : a.eval x = .slice sa m c) (hl : EList w F sa m c L) (hm : m0 + m ≤ 1000000) (hbase : base ≤ w.heap.size)
    (h : ∀ v' w', w'.ownsRow base 28 6 v' (m0 + m) (ents (M ++ L)) → w.grownBy w' v.ownBlock → wpList Try.prog ops Q rest (a.put o.dst v') w') : wpList Try.prog ops Q (o :: rest) a w :=
  wpList_plain hgd fun _ hK => wp_append_ents s x ho base v m0 M hs hown sa m c L hx hl hm hbase fun v' w' h1 h2 => hK _ _ (h v' w' h1 h2)
/-- one entry in a block of its own -/
theorem elist_one {w : World} {g : Nat} {b k v m z o : Int} (h : w.heap[g]? = some (entRow b k v m z o)) : EList w (fun _ => True) (some ⟨g, 0, none⟩) 1 1 [⟨b, k, v, m, z, o⟩] := by
  refine .inr ⟨_, rfl, Nat.le_refl _, by unfold maxLen; decide, rfl, (Array.getElem?_eq_some_iff.1 h).1, trivial, fun j u hu => ?_⟩
  rw [ents_one] at hu
  have hj := (List.getElem?_eq_some_iff.1 hu).1
  rw [Addr.add_lit, Nat.zero_add]
  obtain ⟨h0, h1, h2, h3, h4, h5⟩ := entry_row h
  simp only [entC, List.length_cons, List.length_nil] at hj
  match j, hj, hu with
  | 0, _, hu => obtain rfl := Option.some.inj hu; exact h0
  | 1, _, hu => obtain rfl := Option.some.inj hu; exact h1
  | 2, _, hu => obtain rfl := Option.some.inj hu; exact h2
  | 3, _, hu => obtain rfl := Option.some.inj hu; exact h3
  | 4, _, hu => obtain rfl := Option.some.inj hu; exact h4
  | 5, _, hu => obtain rfl := Option.some.inj hu; exact h5
end Go.Proofs.Ytigmjpkhpoolkaa.Ents
