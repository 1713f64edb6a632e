/- Texts that belong together, part 10. -/
import Derived.Test.YtnmhnjjehglcfaaGreatPack9

/- More steps of a walk: dice whose number is any, lists that a call gave, fields of an element of a list of its own, what lies behind an index. -/
namespace Go.Proofs.YtnmhnjjehglcfaaGreat.Env
open Go.RowKit Plan Ents Rws
section
variable {w W W' : World} {T : List Thing} {α : Type} {R : Row α}
theorem Env.next (K : Env w W T) (i : Nat) {B g : Nat} {zs : List Int} {k : Nat} (h : T[i]? = some (dieT B g zs k)) (hl : zs.length ≤ 100000) (n : Int) (h1 : 1 ≤ n) (h2 : n ≤ 4611686018427387904) :
    Calls Tryz.prog 28 #[.pointer (some ⟨g, 0, none⟩), .int .i64 n] W fun r W' => ∃ (y k' : Nat), r = .returned (.int .i64 (y : Int)) ∧ (y : Int) < n ∧ k' ≤ k + 1 ∧ Env w W' (T.set i (dieT B g zs k')) ∧ ∀ F, Keep w F W T W' (T.set i (dieT B g zs k')) := by
  refine (next_chg W B g zs k n (K.die i h) hl h1 h2).mono ?_
  rintro r W' ⟨rfl, hd, hc⟩
  have hr := nxt_range zs k n h1
  have hs := stp_le zs k
  have hk := K.dice i h hd hc
  refine ⟨(nxt zs k n).toNat, _, by rw [Int.toNat_of_nonneg hr.1], by rw [Int.toNat_of_nonneg hr.1]; exact hr.2, hs, hk.1, hk.2⟩
/-- a list of its own that a call gave -/
theorem Env.got (K : Env w W T) (hb : Below W.heap.size W W') {t : TypeId} {sz n : Nat} {v : Value} {xs : List Value} (h : W'.ownsRow W.heap.size t sz v n xs) : Env w W' (.own t sz v n xs :: T) ∧ ∀ F, Keep w F W T W' (.own t sz v n xs :: T) := by
  have hf : ∀ g, (Thing.own t sz v n xs).has g → W.heap.size ≤ g := fun g hg => (h.lt g hg).1
  refine ⟨K.cons hb (owns_mono h K.hb.size) hf, fun F => ⟨hb.size, fun b hq => ⟨hq.1, Nat.lt_of_lt_of_le hq.2.1 hb.size, fun x hx e => ?_⟩, fun b hq => hb.block b hq.2.1⟩⟩
  rcases List.mem_cons.1 hx with rfl | hx
  · have := hf b e
    have := hq.2.1
    omega
  · exact hq.2.2 x hx e
/-- the cells of an element of a list of the walk's own -/
theorem Env.ownF (hR : R.Ok) (K : Env w W T) (i : Nat) {g n c : Nat} {L : List α} (h : T[i]? = some (lst R (slv g n c) n L)) {k f : Nat} {e : α} (hk : L[k]? = some e) {u : Value} (hu : (R.c e)[f]? = some u) : W.cell? ⟨g, k * R.sz + f, none⟩ = some u ∧ W.frozen? ⟨g, k * R.sz + f, none⟩ = false :=
  own_cell hR (K.own i h) hk hu
theorem all_set_field (hR : R.Ok) {L : List α} {k f : Nat} {e e' : α} (hk : L[k]? = some e) (hf : f < R.sz) {u : Value} (hc : R.c e' = (R.c e).set f u) : (R.all L).set (k * R.sz + f) u = R.all (L.set k e') := by
  induction L generalizing k with
  | nil => cases hk
  | cons x L ih =>
    cases k with
    | zero =>
      obtain rfl := Option.some.inj (show some x = some e from hk)
      rw [List.set_cons_zero, all_cons, all_cons, hc, Nat.zero_mul, Nat.zero_add, List.set_append_left _ _ (by rw [hR.len]; exact hf)]
    | succ k =>
      rw [List.set_cons_succ, all_cons, all_cons, ← ih (k := k) hk]
      rw [List.set_append_right _ _ (by rw [hR.len, Nat.succ_mul]; omega), hR.len, show (k + 1) * R.sz + f - R.sz = k * R.sz + f by rw [Nat.succ_mul]; omega]
/-- a field of an element of a list of the walk's own is stored -/
theorem Env.setF (hR : R.Ok) (K : Env w W T) (i : Nat) {g n c : Nat} {L : List α} (h : T[i]? = some (lst R (slv g n c) n L)) {k f : Nat} {e : α} (e' : α) (hk : L[k]? = some e) (hf : f < R.sz) {u : Value} (hc : R.c e' = (R.c e).set f u) :
    Env w (W.setCell ⟨g, k * R.sz + f, none⟩ u) (T.set i (lst R (slv g n c) n (L.set k e'))) ∧ ∀ F, Keep w F W T (W.setCell ⟨g, k * R.sz + f, none⟩ u) (T.set i (lst R (slv g n c) n (L.set k e'))) := by
  have hown := K.own i h
  have h2 : (W.setCell ⟨g, k * R.sz + f, none⟩ u).ownsRow w.heap.size R.et R.sz (slv g n c) n (R.all (L.set k e')) := by
    rw [← all_set_field hR hk hf hc]
    exact e_owns_cell hown _ u
  obtain ⟨cur, hg⟩ : ∃ cur, W.heap[g]? = some (.cells cur R.et (0, 0)) := by
    rcases hown.2 with ⟨h9, _⟩ | ⟨g', cap, cur, hv, _, hg, _⟩
    · cases h9
    · cases hv
      exact ⟨cur, hg⟩
  have hgr : W.grownBy (W.setCell ⟨g, k * R.sz + f, none⟩ u) (some g) := by
    rw [setCell_eq_setRow W g _ cur _ _ u hg]
    exact ⟨rfl, rfl, rfl, by simp, fun j _ hj => setRow_other W g j _ (fun e => hj (by rw [e]))⟩
  exact ⟨K.set hgr i h (fun g' e => e) h2 (fun g' e => .inl e), fun _ => K.keep_set hgr i h (fun g' e => e) (fun g' e => .inl e)⟩
theorem Env.val (_ : R.Ok) (K : Env w W T) (i : Nat) {v : Value} {n : Nat} {L : List α} (h : T[i]? = some (lst R v n L)) (hn : 0 < n) : ∃ g c, v = slv g n c := by
  obtain ⟨g, c, e, _⟩ := owns_some (R := R) (K.own i h) hn
  exact ⟨g, c, e⟩
theorem Env.any (hR : R.Ok) (K : Env w W T) (i : Nat) {v : Value} {n : Nat} {L : List α} (h : T[i]? = some (lst R v n L)) : ∃ a c, v = .slice a n c ∧ TList R W (fun b => w.heap.size ≤ b) a n c L :=
  owns_list hR (K.own i h) (fun b hb => ((K.own i h).lt b hb).1)
end
end Go.Proofs.YtnmhnjjehglcfaaGreat.Env
namespace Go.Proofs.YtnmhnjjehglcfaaGreat.Rws
open Go.RowKit Plan Ents
/-- a list from an index on, as Go cuts it -/
theorem rest_list {α : Type} {R : Row α} (hR : R.Ok) {w : World} {F : Nat → Prop} {g n c k : Nat} {L : List α} (h : TList R w F (some ⟨g, 0, none⟩) n c L) (hk : k ≤ n) (hn : 0 < n) : TList R w F (if c = k then some ⟨g, 0, none⟩ else some ⟨g, k * R.sz, none⟩) (n - k) (c - k) (L.drop k) := by
  have hb := h.back hR k hk hn
  have hcp := h.cap
  by_cases hc : c = k
  · rw [if_pos hc]
    have hl := h.length
    obtain ⟨y, hy, h5, h6, _⟩ := h.some' hn
    obtain rfl := Option.some.inj hy
    have h0 : L.drop k = [] := List.length_eq_zero_iff.1 (by rw [List.length_drop]; omega)
    rw [h0]
    refine .inr ⟨_, rfl, by omega, by omega, by simp; omega, h5, h6, fun j u hu => ?_⟩
    simp [Row.all] at hu
  · rw [if_neg hc]
    rw [Addr.add_lit, Nat.zero_add] at hb
    exact hb
end Go.Proofs.YtnmhnjjehglcfaaGreat.Rws

/- Sets of small numbers as numbers: what shifts and bit operations give. -/
namespace Go.Proofs.YtnmhnjjehglcfaaGreat.Bits
open Go.RowKit Plan
end Go.Proofs.YtnmhnjjehglcfaaGreat.Bits

/- A whole element is stored into a list of the walk's own; a thing of a walk is left; a list of n results, all zero. -/
namespace Go.Proofs.YtnmhnjjehglcfaaGreat.Env
open Go.RowKit Plan Ents Rws
section
variable {w W W' : World} {T : List Thing} {α : Type} {R : Row α}
theorem Env.tail {x : Thing} (K : Env w W (x :: T)) : Env w W T :=
  ⟨fun y hy => K.hold y (List.mem_cons_of_mem _ hy), fun i j y z g hi hj hy hz => by have := K.nd (i + 1) (j + 1) y z g (by simpa using hi) (by simpa using hj) hy hz; omega, K.hb⟩
end
end Go.Proofs.YtnmhnjjehglcfaaGreat.Env

/- The things of a walk in another order. -/
namespace Go.Proofs.YtnmhnjjehglcfaaGreat.Env
open Go.RowKit Plan Ents Rws
section
variable {w W W' : World} {T T' : List Thing}
def Apart (x y : Thing) : Prop := ∀ g, x.has g → y.has g → False
theorem Env.apart (K : Env w W T) : T.Pairwise Apart := by
  rw [List.pairwise_iff_getElem]
  intro i j hi hj hij g h1 h2
  have := K.nd i j _ _ g (List.getElem?_eq_getElem hi) (List.getElem?_eq_getElem hj) h1 h2
  omega
theorem Env.of (hh : ∀ x ∈ T, x.holds w.heap.size W) (hp : T.Pairwise Apart) (hb : Below w.heap.size w W) : Env w W T := by
  refine ⟨hh, fun i j x y g hi hj hx hy => ?_, hb⟩
  rw [List.pairwise_iff_getElem] at hp
  obtain ⟨h1, rfl⟩ := List.getElem?_eq_some_iff.1 hi
  obtain ⟨h2, rfl⟩ := List.getElem?_eq_some_iff.1 hj
  rcases Nat.lt_trichotomy i j with h | h | h
  · exact (hp i j h1 h2 h g hx hy).elim
  · exact h
  · exact (hp j i h2 h1 h g hy hx).elim
theorem Env.perm (K : Env w W T) (h : T.Perm T') : Env w W T' :=
  Env.of (fun x hx => K.hold x (h.mem_iff.2 hx)) ((h.pairwise_iff (R := Apart) (fun hxy g h1 h2 => hxy g h2 h1)).1 K.apart) K.hb
theorem Env.keep_perm {F : Nat → Prop} (K : Env w W T) (h : T.Perm T') : Keep w F W T W T' := K.keep_sub fun _ hx => h.mem_iff.2 hx
/-- the first thing behind the next two -/
theorem perm3 {a b c : Thing} : (a :: b :: c :: T).Perm (b :: c :: a :: T) :=
  (List.Perm.swap b a (c :: T)).trans ((List.Perm.swap c a T).cons b)
theorem perm3' {a b c : Thing} : (a :: b :: c :: T).Perm (c :: a :: b :: T) := perm3.symm
end
end Go.Proofs.YtnmhnjjehglcfaaGreat.Env

/- A field, or a struct of two cells, is stored into an element of a list of the walk's own, at the operation. -/
namespace Go.Proofs.YtnmhnjjehglcfaaGreat.Env
open Go.RowKit Plan Ents Rws
section
variable {w W W' : World} {T : List Thing} {α : Type} {R : Row α}
theorem Env.storeF (hR : R.Ok) {o : Oper} {a : Act} {K' : Act → World → Prop} {Q : Exit → Act → World → Prop} (K : Env w W T) (i : Nat) {g n c : Nat} {L : List α} (h : T[i]? = some (lst R (slv g n c) n L)) (ty : TypeId) (x y : Operand) (hop : o.op = .store ty x y)
    {k f : Nat} {e : α} (e' : α) (hk : L[k]? = some e) (hf : f < R.sz) {u : Value} (hc : R.c e' = (R.c e).set f u) (q : Nat) (hq : q = k * R.sz + f) (hx : a.eval x = .pointer (some ⟨g, q, none⟩)) (hy : a.eval y = u) (hinf : (Tryz.prog.info? ty).map (·.size) = some 1) (hv : u.cells = #[u]) (hv1 : u.oneCell' = true)
    (hh : ∀ W', Env w W' (T.set i (lst R (slv g n c) n (L.set k e'))) → (∀ F, Keep w F W T W' (T.set i (lst R (slv g n c) n (L.set k e')))) → K' (a.put o.dst undef) W') : o.wp Tryz.prog a W K' Q := by
  subst hq
  have hown := K.own i h
  obtain ⟨v9, hv9⟩ : ∃ v, (R.c e)[f]? = some v := ⟨_, List.getElem?_eq_getElem (by rw [hR.len]; exact hf)⟩
  have hcell := (own_cell hR hown hk hv9).1
  obtain ⟨cur, hg⟩ : ∃ cur, W.heap[g]? = some (.cells cur R.et (0, 0)) := by
    rcases hown.2 with ⟨h9, _⟩ | ⟨g', cap, cur, hv, _, hg, _⟩
    · cases h9
    · cases hv
      exact ⟨cur, hg⟩
  have hsz : k * R.sz + f < cur.size := by
    rw [cell_of_row W g _ _ _ _ hg] at hcell
    exact (Array.getElem?_eq_some_iff.1 hcell).1
  have hset := K.setF hR i h e' hk hf hc
  rw [setCell_eq_setRow W g _ cur _ _ u hg] at hset
  unfold Oper.wp execOp
  simp only [hop, hx, hy, Instr.storeAt, Instr.sureAddr, Sem.run_bind, Sem.run_pure, Result.andThen_ok, run_store_at (v := u) hg hsz hinf hv hv1]
  exact hh _ hset.1 hset.2
theorem Env.storeF2 (hR : R.Ok) {o : Oper} {a : Act} {K' : Act → World → Prop} {Q : Exit → Act → World → Prop} (K : Env w W T) (i : Nat) {g n c : Nat} {L : List α} (h : T[i]? = some (lst R (slv g n c) n L)) (ty : TypeId) (x y : Operand) (hop : o.op = .store ty x y)
    {k f : Nat} {e : α} (e1 e2 : α) (hk : L[k]? = some e) (hf : f + 1 < R.sz) {u0 u1 : Value} (hc1 : R.c e1 = (R.c e).set f u0) (hc2 : R.c e2 = (R.c e1).set (f + 1) u1) (q : Nat) (hq : q = k * R.sz + f) (hx : a.eval x = .pointer (some ⟨g, q, none⟩)) (hy : a.eval y = .agg #[u0, u1]) (hinf : (Tryz.prog.info? ty).map (·.size) = some 2) (hv0 : u0.oneCell' = true) (hv1 : u1.oneCell' = true)
    (hh : ∀ W', Env w W' (T.set i (lst R (slv g n c) n (L.set k e2))) → (∀ F, Keep w F W T W' (T.set i (lst R (slv g n c) n (L.set k e2)))) → K' (a.put o.dst undef) W') : o.wp Tryz.prog a W K' Q := by
  subst hq
  have hkn : k < n := by
    have h1 := (List.getElem?_eq_some_iff.1 hk).1
    have h2 := owns_len hR (K.own i h)
    omega
  have hth : W.there g (k * R.sz + f) (#[u0, u1] : Array Value).size := fun j hj => by
    have := own_there hR (K.own i h) hkn (f + j) (by simp at hj; omega)
    rwa [← Nat.add_assoc] at this
  have hil : i < T.length := (List.getElem?_eq_some_iff.1 h).1
  have hkl : k < L.length := (List.getElem?_eq_some_iff.1 hk).1
  have s1 := K.setF hR i h e1 hk (by omega) hc1
  have s2 := s1.1.setF hR i (g := g) (n := n) (c := c) (L := L.set k e1) (List.getElem?_set_self hil) e2 (List.getElem?_set_self hkl) hf hc2
  rw [List.set_set, List.set_set] at s2
  refine wp_store_mid ty x y hop g (k * R.sz + f) #[u0, u1] hx hy hth hinf (by simp [hv0, hv1]) ?_
  exact hh _ s2.1 (fun F => (s1.2 F).trans (s2.2 F))
end
end Go.Proofs.YtnmhnjjehglcfaaGreat.Env
