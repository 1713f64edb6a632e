/- Texts that belong together, part 15. -/
import Derived.Test.YtnmhnjjehglcfaaGreatPack4
import Derived.Test.YtnmhnjjehglcfaaGreatPack14

/- The things of a walk in another order. -/
namespace Go.Proofs.YtnmhnjjehglcfaaGreat.Env
open Go.RowKit Plan Ents Rws
section
variable {w W W' : World} {T T' : List Thing}
def Apart (x y : Thing) : Prop := ∀ g, x.has g → y.has g → False
theorem Env.apart (K : Env w W T) : T.Pairwise Apart := by
  rw [List.pairwise_iff_getElem]
  intro i j hi hj hij g h1 h2
  have := K.nd i j _ _ g (List.getElem?_eq_getElem hi) (List.getElem?_eq_getElem hj) h1 h2
  omega
theorem Env.of (hh : ∀ x ∈ T, x.holds w.heap.size W) (hp : T.Pairwise Apart) (hb : Below w.heap.size w W) : Env w W T := by
  refine ⟨hh, fun i j x y g hi hj hx hy => ?_, hb⟩
  rw [List.pairwise_iff_getElem] at hp
  obtain ⟨h1, rfl⟩ := List.getElem?_eq_some_iff.1 hi
  obtain ⟨h2, rfl⟩ := List.getElem?_eq_some_iff.1 hj
  rcases Nat.lt_trichotomy i j with h | h | h
  · exact (hp i j h1 h2 h g hx hy).elim
  · exact h
  · exact (hp j i h2 h1 h g hy hx).elim
theorem Env.perm (K : Env w W T) (h : T.Perm T') : Env w W T' :=
  Env.of (fun x hx => K.hold x (h.mem_iff.2 hx)) ((h.pairwise_iff (R := Apart) (fun hxy g h1 h2 => hxy g h2 h1)).1 K.apart) K.hb
theorem Env.keep_perm {F : Nat → Prop} (K : Env w W T) (h : T.Perm T') : Keep w F W T W T' := K.keep_sub fun _ hx => h.mem_iff.2 hx
/-- the first thing behind the next two -/
theorem perm3 {a b c : Thing} : (a :: b :: c :: T).Perm (b :: c :: a :: T) :=
  (List.Perm.swap b a (c :: T)).trans ((List.Perm.swap c a T).cons b)
theorem perm3' {a b c : Thing} : (a :: b :: c :: T).Perm (c :: a :: b :: T) := perm3.symm
/-- a list of the walk's own, whatever its value is, that it is done with -/
theorem Env.anyQ {α : Type} {R : Row α} {F : Nat → Prop} (hR : R.Ok) (K : Env w W T) (i : Nat) {v : Value} {n : Nat} {L : List α} (h : T[i]? = some (lst R v n L)) : ∃ a c, v = .slice a n c ∧ TList R W (Quiet w F W (T.eraseIdx i)) a n c L :=
  owns_list hR (K.own i h) fun b hb => ⟨.inr ((K.own i h).lt b hb).1, ((K.own i h).lt b hb).2, fun x hx e => by
    obtain ⟨j, hj, hji⟩ := List.mem_eraseIdx_iff_getElem?.1 hx
    exact hj (K.nd j i x _ b hji h e hb)⟩
end
end Go.Proofs.YtnmhnjjehglcfaaGreat.Env

/- A field, or a struct of two cells, is stored into an element of a list of the walk's own, at the operation. -/
namespace Go.Proofs.YtnmhnjjehglcfaaGreat.Env
open Go.RowKit Plan Ents Rws
section
variable {w W W' : World} {T : List Thing} {α : Type} {R : Row α}
theorem Env.storeF (hR : R.Ok) {o : Oper} {a : Act} {K' : Act → World → Prop} {Q : Exit → Act → World → Prop} (K : Env w W T) (i : Nat) {g n c : Nat} {L : List α} (h : T[i]? = some (lst R (slv g n c) n L)) (ty : TypeId) (x y : Operand) (hop : o.op = .store ty x y)
    {k f : Nat} {e : α} (e' : α) (hk : L[k]? = some e) (hf : f < R.sz) {u : Value} (hc : R.c e' = (R.c e).set f u) (q : Nat) (hq : q = k * R.sz + f) (hx : a.eval x = .pointer (some ⟨g, q, none⟩)) (hy : a.eval y = u) (hinf : (Tryz.prog.info? ty).map (·.size) = some 1) (hv : u.cells = #[u]) (hv1 : u.oneCell' = true)
    (hh : ∀ W', Env w W' (T.set i (lst R (slv g n c) n (L.set k e'))) → (∀ F, Keep w F W T W' (T.set i (lst R (slv g n c) n (L.set k e')))) → K' (a.put o.dst undef) W') : o.wp Tryz.prog a W K' Q := by
  subst hq
  have hown := K.own i h
  obtain ⟨v9, hv9⟩ : ∃ v, (R.c e)[f]? = some v := ⟨_, List.getElem?_eq_getElem (by rw [hR.len]; exact hf)⟩
  have hcell := (own_cell hR hown hk hv9).1
  obtain ⟨cur, hg⟩ : ∃ cur, W.heap[g]? = some (.cells cur R.et (0, 0)) := by
    rcases hown.2 with ⟨h9, _⟩ | ⟨g', cap, cur, hv, _, hg, _⟩
    · cases h9
    · cases hv
      exact ⟨cur, hg⟩
  have hsz : k * R.sz + f < cur.size := by
    rw [cell_of_row W g _ _ _ _ hg] at hcell
    exact (Array.getElem?_eq_some_iff.1 hcell).1
  have hset := K.setF hR i h e' hk hf hc
  rw [setCell_eq_setRow W g _ cur _ _ u hg] at hset
  unfold Oper.wp execOp
  simp only [hop, hx, hy, Instr.storeAt, Instr.sureAddr, Sem.run_bind, Sem.run_pure, Result.andThen_ok, run_store_at (v := u) hg hsz hinf hv hv1]
  exact hh _ hset.1 hset.2
theorem Env.storeF2 (hR : R.Ok) {o : Oper} {a : Act} {K' : Act → World → Prop} {Q : Exit → Act → World → Prop} (K : Env w W T) (i : Nat) {g n c : Nat} {L : List α} (h : T[i]? = some (lst R (slv g n c) n L)) (ty : TypeId) (x y : Operand) (hop : o.op = .store ty x y)
    {k f : Nat} {e : α} (e1 e2 : α) (hk : L[k]? = some e) (hf : f + 1 < R.sz) {u0 u1 : Value} (hc1 : R.c e1 = (R.c e).set f u0) (hc2 : R.c e2 = (R.c e1).set (f + 1) u1) (q : Nat) (hq : q = k * R.sz + f) (hx : a.eval x = .pointer (some ⟨g, q, none⟩)) (hy : a.eval y = .agg #[u0, u1]) (hinf : (Tryz.prog.info? ty).map (·.size) = some 2) (hv0 : u0.oneCell' = true) (hv1 : u1.oneCell' = true)
    (hh : ∀ W', Env w W' (T.set i (lst R (slv g n c) n (L.set k e2))) → (∀ F, Keep w F W T W' (T.set i (lst R (slv g n c) n (L.set k e2)))) → K' (a.put o.dst undef) W') : o.wp Tryz.prog a W K' Q := by
  subst hq
  have hkn : k < n := by
    have h1 := (List.getElem?_eq_some_iff.1 hk).1
    have h2 := owns_len hR (K.own i h)
    omega
  have hth : W.there g (k * R.sz + f) (#[u0, u1] : Array Value).size := fun j hj => by
    have := own_there hR (K.own i h) hkn (f + j) (by simp at hj; omega)
    rwa [← Nat.add_assoc] at this
  have hil : i < T.length := (List.getElem?_eq_some_iff.1 h).1
  have hkl : k < L.length := (List.getElem?_eq_some_iff.1 hk).1
  have s1 := K.setF hR i h e1 hk (by omega) hc1
  have s2 := s1.1.setF hR i (g := g) (n := n) (c := c) (L := L.set k e1) (List.getElem?_set_self hil) e2 (List.getElem?_set_self hkl) hf hc2
  rw [List.set_set, List.set_set] at s2
  refine wp_store_mid ty x y hop g (k * R.sz + f) #[u0, u1] hx hy hth hinf (by simp [hv0, hv1]) ?_
  exact hh _ s2.1 (fun F => (s1.2 F).trans (s2.2 F))
end
end Go.Proofs.YtnmhnjjehglcfaaGreat.Env

/- The walk of the document's Of of counters. -/
namespace Go.Proofs.YtnmhnjjehglcfaaGreat.Ents
open Go.RowKit Plan EntMath CntMath
end Go.Proofs.YtnmhnjjehglcfaaGreat.Ents

/- What the program's counters are to do, in the words of the contracts of the document's own; the walk of the law's agree under it. -/
namespace Go.Proofs.YtnmhnjjehglcfaaGreat.Ents
open Go.RowKit Plan EntMath CntMath
end Go.Proofs.YtnmhnjjehglcfaaGreat.Ents
