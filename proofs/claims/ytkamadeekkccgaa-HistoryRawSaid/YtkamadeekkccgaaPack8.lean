/- Texts that belong together, part 8. -/
import Derived.Test.YtkamadeekkccgaaPack7
import Derived.MapKept
import Derived.RangeFuncNested
import Derived.Deep.Cut
import Derived.Deep.DeepCutAuto

/- A field, or a struct of two cells, is stored into an element of a list of the walk's own, at the operation. -/
namespace Go.Proofs.Ytkamadeekkccgaa.Env
open Go.RowKit Plan Ents Rws
section
variable {w W W' : World} {T : List Thing} {α : Type} {R : Row α}
theorem Env.storeF (hR : R.Ok) {o : Oper} {a : Act} {K' : Act → World → Prop} {Q : Exit → Act → World → Prop} (K : Env w W T) (i : Nat) {g n c : Nat} {L : List α} (h : T[i]? = some (lst R (slv g n c) n L)) (ty : TypeId) (x y : Operand) (hop : o.op = .store ty x y)
    {k f : Nat} {e : α} (e' : α) (hk : L[k]? = some e) (hf : f < R.sz) {u : Value} (hc : R.c e' = (R.c e).set f u) (q : Nat) (hq : q = k * R.sz + f) (hx : a.eval x = .pointer (some ⟨g, q, none⟩)) (hy : a.eval y = u) (hinf : (Try.prog.info? ty).map (·.size) = some 1) (hv : u.cells = #[u]) (hv1 : u.oneCell' = true)
    (hh : ∀ W', Env w W' (T.set i (lst R (slv g n c) n (L.set k e'))) → (∀ F, Keep w F W T W' (T.set i (lst R (slv g n c) n (L.set k e')))) → K' (a.put o.dst undef) W') : o.wp Try.prog a W K' Q := by
  subst hq
  have hown := K.own i h
  obtain ⟨v9, hv9⟩ : ∃ v, (R.c e)[f]? = some v := ⟨_, List.getElem?_eq_getElem (by rw [hR.len]; exact hf)⟩
  have hcell := (own_cell hR hown hk hv9).1
  obtain ⟨cur, hg⟩ : ∃ cur, W.heap[g]? = some (.cells cur R.et (0, 0)) := by
    rcases hown.2 with ⟨h9, _⟩ | ⟨g', cap, cur, hv, _, hg, _⟩
    · cases h9
    · cases hv
      exact ⟨cur, hg⟩
  have hsz : k * R.sz + f < cur.size := by
    rw [cell_of_row W g _ _ _ _ hg] at hcell
    exact (Array.getElem?_eq_some_iff.1 hcell).1
  have hset := K.setF hR i h e' hk hf hc
  rw [setCell_eq_setRow W g _ cur _ _ u hg] at hset
  unfold Oper.wp execOp
  simp only [hop, hx, hy, Instr.storeAt, Instr.sureAddr, Sem.run_bind, Sem.run_pure, Result.andThen_ok, run_store_at (v := u) hg hsz hinf hv hv1]
  exact hh _ hset.1 hset.2
theorem Env.storeF2 (hR : R.Ok) {o : Oper} {a : Act} {K' : Act → World → Prop} {Q : Exit → Act → World → Prop} (K : Env w W T) (i : Nat) {g n c : Nat} {L : List α} (h : T[i]? = some (lst R (slv g n c) n L)) (ty : TypeId) (x y : Operand) (hop : o.op = .store ty x y)
    {k f : Nat} {e : α} (e1 e2 : α) (hk : L[k]? = some e) (hf : f + 1 < R.sz) {u0 u1 : Value} (hc1 : R.c e1 = (R.c e).set f u0) (hc2 : R.c e2 = (R.c e1).set (f + 1) u1) (q : Nat) (hq : q = k * R.sz + f) (hx : a.eval x = .pointer (some ⟨g, q, none⟩)) (hy : a.eval y = .agg #[u0, u1]) (hinf : (Try.prog.info? ty).map (·.size) = some 2) (hv0 : u0.oneCell' = true) (hv1 : u1.oneCell' = true)
    (hh : ∀ W', Env w W' (T.set i (lst R (slv g n c) n (L.set k e2))) → (∀ F, Keep w F W T W' (T.set i (lst R (slv g n c) n (L.set k e2)))) → K' (a.put o.dst undef) W') : o.wp Try.prog a W K' Q := by
  subst hq
  have hkn : k < n := by
    have h1 := (List.getElem?_eq_some_iff.1 hk).1
    have h2 := owns_len hR (K.own i h)
    omega
  have hth : W.there g (k * R.sz + f) (#[u0, u1] : Array Value).size := fun j hj => by
    have := own_there hR (K.own i h) hkn (f + j) (by simp at hj; omega)
    rwa [← Nat.add_assoc] at this
  have hil : i < T.length := (List.getElem?_eq_some_iff.1 h).1
  have hkl : k < L.length := (List.getElem?_eq_some_iff.1 hk).1
  have s1 := K.setF hR i h e1 hk (by omega) hc1
  have s2 := s1.1.setF hR i (g := g) (n := n) (c := c) (L := L.set k e1) (List.getElem?_set_self hil) e2 (List.getElem?_set_self hkl) hf hc2
  rw [List.set_set, List.set_set] at s2
  refine wp_store_mid ty x y hop g (k * R.sz + f) #[u0, u1] hx hy hth hinf (by simp [hv0, hv1]) ?_
  exact hh _ s2.1 (fun F => (s1.2 F).trans (s2.2 F))
end
end Go.Proofs.Ytkamadeekkccgaa.Env

/- A map from numbers to values of one type: asked, with its second answer and without, and written, also over what is there; as a thing of a walk. -/
namespace Go.Proofs.Ytkamadeekkccgaa.Ents
open Go.RowKit Plan Rws Env
open MapKept (IsKey findNow_spec run_checkKey run_findKey run_setObj_map)
def IMap (W : World) (B : Nat) (f : Int → Option Value) : Prop :=
  ∃ es ck, W.heap[B]? = some (.map es ck) ∧ (es.toList.map (·.key)).Nodup ∧ (∀ e ∈ es.toList, ∃ z : Int, e.key = .int .i64 z ∧ f z = some e.val) ∧ ∀ (z : Int) (v : Value), f z = some v → ∃ e ∈ es.toList, e.key = .int .i64 z
theorem IMap.new {W : World} {B : Nat} (h : W.heap[B]? = some (.map #[] 0)) : IMap W B (fun _ => none) :=
  ⟨_, _, h, by simp, by simp, fun _ _ h => by cases h⟩
theorem IMap.on {W W' : World} {B : Nat} {f : Int → Option Value} (h : IMap W B f) (hb : W'.heap[B]? = W.heap[B]?) : IMap W' B f := by
  obtain ⟨es, ck, h1, h2⟩ := h
  exact ⟨es, ck, hb.trans h1, h2⟩
theorem IMap.lt {W : World} {B : Nat} {f : Int → Option Value} (h : IMap W B f) : B < W.heap.size := by
  obtain ⟨es, ck, h1, h2⟩ := h
  exact (Array.getElem?_eq_some_iff.1 h1).1
theorem imap_look {mt et : TypeId} (hu : Try.prog.underlying mt = some (.map 3 et)) {Z : Value} (hz : ∀ W, (zeroValue et).run Try.prog W = .ok Z W) {W : World} {B : Nat} {f : Int → Option Value} (h : IMap W B f) (z : Int) :
    (Instr.lookup mt (.map (some B)) (.int .i64 z) true).run Try.prog W = .ok (.tuple #[(f z).getD Z, .bool (f z).isSome]) W ∧ (Instr.lookup mt (.map (some B)) (.int .i64 z) false).run Try.prog W = .ok ((f z).getD Z) W := by
  obtain ⟨es, ck, hb, hnd, hk, hs⟩ := h
  have hkey : IsKey (.int .i64) (.int .i64 z) := rfl
  have hall : ∀ x ∈ es.toList, IsKey (.int .i64) x.key := fun x hx => by obtain ⟨y, hy, _⟩ := hk x hx; rw [hy]; rfl
  rcases findNow_spec hkey es.toList 0 hall with ⟨h1, h2⟩ | ⟨j, e, h1, h2, h3⟩
  · have hr : f z = none := by
      cases hq : f z
      · rfl
      · obtain ⟨e, he, hz⟩ := hs z _ hq
        exact absurd hz (h2 e he)
    rw [hr]
    constructor <;> simp [Instr.lookup, run_underlying hu, MapKept.run_getObj_map hb, run_checkKey Try.underlying3 hkey, run_findKey Try.underlying3 h1, hz W, Result.andThen]
  · have he : e ∈ es.toList := List.mem_of_getElem? h2
    obtain ⟨y, hy, hv⟩ := hk e he
    have hyz : y = z := by rw [hy] at h3; cases h3; rfl
    subst hyz
    rw [hv]
    constructor <;> simp [Instr.lookup, run_underlying hu, MapKept.run_getObj_map hb, run_checkKey Try.underlying3 hkey, run_findKey Try.underlying3 h1, Result.andThen]
def putF (f : Int → Option Value) (z : Int) (v : Value) : Int → Option Value := fun y => if y = z then some v else f y
theorem imap_put {mt et : TypeId} (hu : Try.prog.underlying mt = some (.map 3 et)) {W : World} {B : Nat} {f : Int → Option Value} (h : IMap W B f) (z : Int) (v : Value) :
    ∃ W', (Instr.mapUpdate mt (.map (some B)) (.int .i64 z) v).run Try.prog W = .ok () W' ∧ IMap W' B (putF f z v) ∧ W.grownBy W' (some B) := by
  obtain ⟨es, ck, hb, hnd, hk, hs⟩ := h
  have hkey : IsKey (.int .i64) (.int .i64 z) := rfl
  have hall : ∀ x ∈ es.toList, IsKey (.int .i64) x.key := fun x hx => by obtain ⟨y, hy, _⟩ := hk x hx; rw [hy]; rfl
  have hBlt := (Array.getElem?_eq_some_iff.1 hb).1
  rcases findNow_spec hkey es.toList 0 hall with ⟨h1, h2⟩ | ⟨j, e, h1, h2, h3⟩
  · refine ⟨W.putObj B (.map (es.push { key := .int .i64 z, val := v, born := ck }) (ck + 1)), ?_, ⟨_, _, World.putObj_heap_same hBlt, ?_, ?_, ?_⟩, grownBy_putObj' W B _⟩
    · simp [Instr.mapUpdate, run_underlying hu, MapKept.run_getObj_map hb, run_checkKey Try.underlying3 hkey, run_findKey Try.underlying3 h1, run_setObj_map _ hb, Result.andThen, World.putObj]
    · simp only [Array.toList_push, List.map_append, List.map_cons, List.map_nil]
      refine List.nodup_append.2 ⟨hnd, by simp, ?_⟩
      intro a ha b hb
      simp only [List.mem_singleton] at hb
      subst hb
      obtain ⟨x, hx, rfl⟩ := List.mem_map.1 ha
      exact h2 x hx
    · intro x hx
      simp only [Array.toList_push, List.mem_append, List.mem_singleton] at hx
      rcases hx with hx | rfl
      · obtain ⟨y, hy, hv⟩ := hk x hx
        have hne : y ≠ z := fun e => h2 x hx (by rw [hy, e])
        exact ⟨y, hy, by simp [putF, hne, hv]⟩
      · exact ⟨z, rfl, by simp [putF]⟩
    · intro y v' hy
      simp only [Array.toList_push, List.mem_append, List.mem_singleton]
      by_cases hyz : y = z
      · subst hyz
        exact ⟨_, .inr rfl, rfl⟩
      · simp only [putF, if_neg hyz] at hy
        obtain ⟨x, hx, hk'⟩ := hs y v' hy
        exact ⟨x, .inl hx, hk'⟩
  · have hj : es[j]? = some e := by simpa using h2
    have hjl : j < es.toList.length := (List.getElem?_eq_some_iff.1 h2).1
    have hmod : ∀ (i : Nat) (x : MapEntry), (es.modify j fun e => { e with key := .int .i64 z, val := v }).toList[i]? = some x → (i = j ∧ x.key = .int .i64 z ∧ x.val = v) ∨ (i ≠ j ∧ es.toList[i]? = some x) := by
      intro i x hx
      rw [Array.getElem?_toList, Array.getElem?_modify] at hx
      by_cases hij : j = i
      · subst hij
        rw [if_pos rfl, hj] at hx
        obtain rfl := Option.some.inj hx
        exact .inl ⟨rfl, rfl, rfl⟩
      · rw [if_neg hij] at hx
        exact .inr ⟨fun e => hij e.symm, by rw [Array.getElem?_toList]; exact hx⟩
    refine ⟨W.putObj B (.map (es.modify j fun e => { e with key := .int .i64 z, val := v }) ck), ?_, ⟨_, _, World.putObj_heap_same hBlt, ?_, ?_, ?_⟩, grownBy_putObj' W B _⟩
    · simp [Instr.mapUpdate, run_underlying hu, MapKept.run_getObj_map hb, run_checkKey Try.underlying3 hkey, run_findKey Try.underlying3 h1, hj, h3, MapKept.run_keyThatStays hkey, run_setObj_map _ hb, Result.andThen, World.putObj]
    · rw [MapKept.modify_keys j _ (fun e' he' => by rw [hj] at he'; cases he'; exact h3.symm)]
      exact hnd
    · intro x hx
      obtain ⟨i, hi⟩ := List.mem_iff_getElem?.1 hx
      rcases hmod i x hi with ⟨_, hk', hv'⟩ | ⟨hne, hi'⟩
      · exact ⟨z, hk', by simp [putF, hv']⟩
      · obtain ⟨y, hy, hv⟩ := hk x (List.mem_of_getElem? hi')
        have hyz : y ≠ z := fun e9 => by
          have hil : i < (es.toList.map (·.key)).length := by rw [List.length_map]; exact (List.getElem?_eq_some_iff.1 hi').1
          have hjl' : j < (es.toList.map (·.key)).length := by rw [List.length_map]; exact hjl
          have e1 : (es.toList.map (·.key))[i]? = some (.int .i64 z) := by rw [List.getElem?_map, hi', Option.map_some, hy, e9]
          have e2 : (es.toList.map (·.key))[j]? = some (.int .i64 z) := by rw [List.getElem?_map, h2, Option.map_some, h3]
          exact hne ((List.getElem_inj (h₀ := hil) (h₁ := hjl') hnd).1 (by rw [(List.getElem_eq_iff hil).2 e1, (List.getElem_eq_iff hjl').2 e2]))
        exact ⟨y, hy, by simp [putF, hyz, hv]⟩
    · intro y v' hy
      by_cases hyz : y = z
      · subst hyz
        have : (es.modify j fun e => { e with key := .int .i64 y, val := v }).toList[j]? = some { e with key := .int .i64 y, val := v } := by
          rw [Array.getElem?_toList, Array.getElem?_modify, if_pos rfl, hj]
          rfl
        exact ⟨_, List.mem_of_getElem? this, rfl⟩
      · simp only [putF, if_neg hyz] at hy
        obtain ⟨x, hx, hk'⟩ := hs y v' hy
        obtain ⟨i, hi⟩ := List.mem_iff_getElem?.1 hx
        have hij : j ≠ i := fun e9 => by
          subst e9
          rw [h2] at hi
          obtain rfl := Option.some.inj hi
          rw [h3] at hk'
          cases hk'
          exact hyz rfl
        have : (es.modify j fun e => { e with key := .int .i64 z, val := v }).toList[i]? = some x := by
          rw [Array.getElem?_toList, Array.getElem?_modify, if_neg hij]
          rw [Array.getElem?_toList] at hi
          exact hi
        exact ⟨x, List.mem_of_getElem? this, hk'⟩
abbrev imapT (mb : Nat) (f : Int → Option Value) : Thing := .any (fun b => b = mb) (fun W => IMap W mb f)
theorem imap_holds {B mb : Nat} {W : World} {f : Int → Option Value} (h : IMap W mb f) (hb : B ≤ mb) : (imapT mb f).holds B W :=
  ⟨h, fun b e => by subst e; exact ⟨hb, h.lt⟩, fun _ _ h1 _ hs => h1.on (hs mb rfl)⟩
section
variable {w W : World} {T : List Thing} {mb : Nat} {f : Int → Option Value}
theorem env_mget (K : Env w W T) (i : Nat) (h : T[i]? = some (imapT mb f)) : IMap W mb f := (K.at' i h).1
theorem env_mput {mt et : TypeId} (hu : Try.prog.underlying mt = some (.map 3 et)) (K : Env w W T) (i : Nat) (h : T[i]? = some (imapT mb f)) (z : Int) (v : Value) :
    ∃ W', (Instr.mapUpdate mt (.map (some mb)) (.int .i64 z) v).run Try.prog W = .ok () W' ∧ Env w W' (T.set i (imapT mb (putF f z v))) ∧ ∀ F, Keep w F W T W' (T.set i (imapT mb (putF f z v))) := by
  obtain ⟨W', hr, hs', hg⟩ := imap_put hu (env_mget K i h) z v
  have hb : w.heap.size ≤ mb := (((K.at' i h).2.1) mb rfl).1
  have := K.change (y := imapT mb (putF f z v)) i h (Chg.grown hg rfl) (imap_holds hs' hb) (fun g e => .inl e)
  exact ⟨W', hr, this.1, this.2⟩
/-- a new map -/
theorem env_mnew (K : Env w W T) : Env w (W.alloc (.map #[] 0)) (imapT W.heap.size (fun _ => none) :: T) :=
  K.cons ((Below.refl _ _).alloc (Nat.le_refl _) _) (imap_holds (IMap.new (heap_alloc_new W _)) K.hb.size) (fun g hg => by have : g = W.heap.size := hg; omega)
end
end Go.Proofs.Ytkamadeekkccgaa.Ents

/- A map that holds true at each number that has come: asked, and written; as a thing of a walk. -/
namespace Go.Proofs.Ytkamadeekkccgaa.Ents
open Go.RowKit Plan Rws Env
open MapKept (IsKey findNow_spec run_checkKey run_findKey run_setObj_map)
def ISeen (W : World) (B : Nat) (L : List Int) : Prop :=
  ∃ es ck, W.heap[B]? = some (.map es ck) ∧ (∀ e ∈ es.toList, ∃ z : Int, e.key = .int .i64 z ∧ e.val = .bool true) ∧ ∀ z : Int, (∃ e ∈ es.toList, e.key = .int .i64 z) ↔ z ∈ L
theorem ISeen.new {W : World} {B : Nat} (h : W.heap[B]? = some (.map #[] 0)) : ISeen W B [] :=
  ⟨_, _, h, by simp, by simp⟩
theorem ISeen.on {W W' : World} {B : Nat} {L : List Int} (h : ISeen W B L) (hb : W'.heap[B]? = W.heap[B]?) : ISeen W' B L := by
  obtain ⟨es, ck, h1, h2⟩ := h
  exact ⟨es, ck, hb.trans h1, h2⟩
theorem ISeen.lt {W : World} {B : Nat} {L : List Int} (h : ISeen W B L) : B < W.heap.size := by
  obtain ⟨es, ck, h1, h2⟩ := h
  exact (Array.getElem?_eq_some_iff.1 h1).1
theorem iseen_und : Try.prog.underlying 66 = some (.map 3 4) := by kernel_rfl
theorem iseen_look {W : World} {B : Nat} {L : List Int} (h : ISeen W B L) (z : Int) : (Instr.lookup 66 (.map (some B)) (.int .i64 z) false).run Try.prog W = .ok (.bool (decide (z ∈ L))) W := by
  obtain ⟨es, ck, hb, hk, hs⟩ := h
  have hkey : IsKey (.int .i64) (.int .i64 z) := rfl
  have hall : ∀ x ∈ es.toList, IsKey (.int .i64) x.key := fun x hx => by obtain ⟨y, hy, _⟩ := hk x hx; rw [hy]; rfl
  rcases findNow_spec hkey es.toList 0 hall with ⟨h1, h2⟩ | ⟨j, e, h1, h2, h3⟩
  · have hr : decide (z ∈ L) = false := by
      cases hq : decide (z ∈ L)
      · rfl
      · obtain ⟨e, he, hz⟩ := (hs z).2 (of_decide_eq_true hq)
        exact absurd hz (h2 e he)
    rw [hr]
    simp [Instr.lookup, run_underlying iseen_und, MapKept.run_getObj_map hb, run_checkKey Try.underlying3 hkey, run_findKey Try.underlying3 h1, Result.andThen]
  · have he : e ∈ es.toList := List.mem_of_getElem? h2
    obtain ⟨y, hy, hv⟩ := hk e he
    have hr : decide (z ∈ L) = true := decide_eq_true ((hs z).1 ⟨e, he, h3⟩)
    rw [hr]
    simp [Instr.lookup, run_underlying iseen_und, MapKept.run_getObj_map hb, run_checkKey Try.underlying3 hkey, run_findKey Try.underlying3 h1, hv, Result.andThen]
theorem iseen_put {W : World} {B : Nat} {L : List Int} (h : ISeen W B L) (r : Int) (hr : ¬ r ∈ L) :
    ∃ W', (Instr.mapUpdate 66 (.map (some B)) (.int .i64 r) (.bool true)).run Try.prog W = .ok () W' ∧ ISeen W' B (r :: L) ∧ W.grownBy W' (some B) := by
  obtain ⟨es, ck, hb, hk, hs⟩ := h
  have hkey : IsKey (.int .i64) (.int .i64 r) := rfl
  have hall : ∀ x ∈ es.toList, IsKey (.int .i64) x.key := fun x hx => by obtain ⟨y, hy, _⟩ := hk x hx; rw [hy]; rfl
  rcases findNow_spec hkey es.toList 0 hall with ⟨h1, h2⟩ | ⟨j, e, h1, h2, h3⟩
  · refine ⟨W.putObj B (.map (es.push { key := .int .i64 r, val := .bool true, born := ck }) (ck + 1)), ?_, ⟨_, _, World.putObj_heap_same (Array.getElem?_eq_some_iff.1 hb).1, ?_, ?_⟩, grownBy_putObj' W B _⟩
    · simp [Instr.mapUpdate, run_underlying iseen_und, MapKept.run_getObj_map hb, run_checkKey Try.underlying3 hkey, run_findKey Try.underlying3 h1, run_setObj_map _ hb, Result.andThen, World.putObj]
    · intro x hx
      simp only [Array.toList_push, List.mem_append, List.mem_singleton] at hx
      rcases hx with hx | rfl
      · exact hk x hx
      · exact ⟨_, rfl, rfl⟩
    · intro z
      rw [List.mem_cons, ← hs z]
      simp only [Array.toList_push, List.mem_append, List.mem_singleton]
      constructor
      · rintro ⟨x, hx | rfl, hz⟩
        · exact .inr ⟨x, hx, hz⟩
        · exact .inl (by cases hz; rfl)
      · rintro (rfl | ⟨x, hx, hz⟩)
        · exact ⟨_, .inr rfl, rfl⟩
        · exact ⟨x, .inl hx, hz⟩
  · exact absurd ((hs r).1 ⟨e, List.mem_of_getElem? h2, h3⟩) hr
abbrev iseenT (mb : Nat) (Sn : List Int) : Thing := .any (fun b => b = mb) (fun W => ISeen W mb Sn)
theorem iseen_holds {B mb : Nat} {W : World} {Sn : List Int} (h : ISeen W mb Sn) (hb : B ≤ mb) : (iseenT mb Sn).holds B W :=
  ⟨h, fun b e => by subst e; exact ⟨hb, h.lt⟩, fun _ _ h1 _ hs => h1.on (hs mb rfl)⟩
section
variable {w W : World} {T : List Thing} {mb : Nat} {Sn : List Int}
theorem env_iseen (K : Env w W T) (i : Nat) (h : T[i]? = some (iseenT mb Sn)) : ISeen W mb Sn := (K.at' i h).1
theorem env_iput (K : Env w W T) (i : Nat) (h : T[i]? = some (iseenT mb Sn)) {p : Int} (hp : ¬ p ∈ Sn) :
    ∃ W', (Instr.mapUpdate 66 (.map (some mb)) (.int .i64 p) (.bool true)).run Try.prog W = .ok () W' ∧ Env w W' (T.set i (iseenT mb (p :: Sn))) ∧ ∀ F, Keep w F W T W' (T.set i (iseenT mb (p :: Sn))) := by
  obtain ⟨W', hr, hs', hg⟩ := iseen_put (env_iseen K i h) p hp
  have hb : w.heap.size ≤ mb := (((K.at' i h).2.1) mb rfl).1
  have := K.change (y := iseenT mb (p :: Sn)) i h (Chg.grown hg rfl) (iseen_holds hs' hb) (fun g e => .inl e)
  exact ⟨W', hr, this.1, this.2⟩
/-- a new map -/
theorem env_imap (K : Env w W T) : Env w (W.alloc (.map #[] 0)) (iseenT W.heap.size [] :: T) :=
  K.cons ((Below.refl _ _).alloc (Nat.le_refl _) _) (iseen_holds (ISeen.new (heap_alloc_new W _)) K.hb.size) (fun g hg => by have : g = W.heap.size := hg; omega)
end
end Go.Proofs.Ytkamadeekkccgaa.Ents

/- The walks of the document's fits and Before. -/
namespace Go.Proofs.Ytkamadeekkccgaa.Ents
open Go.RowKit Plan HisMath Rws Env LayMath CmdMath
theorem hs_cells2 {w : World} {g : Nat} {a b : Value} {t : TypeId} {fr : Nat × Nat} (h : w.heap[g]? = some (.cells #[a, b] t fr)) : w.cell? ⟨g, 0, none⟩ = some a ∧ w.cell? ⟨g, 1, none⟩ = some b := ⟨cell_of_row _ _ 0 _ _ _ h, cell_of_row _ _ 1 _ _ _ h⟩
set_option maxHeartbeats 8000000 in
set_option maxRecDepth 20000 in
theorem refFits_any (k b e : Int) (s x : ByteArray) (w : World) :
    Calls Try.prog 35 #[cmdV k b s, .agg #[.int .i64 e, .string x]] w fun r w' => r = .returned (.bool (fitsB k e x.size)) ∧ Below w.heap.size w w' := by
  have K := ((Env.start w).al (cmdRow k b s)).al (.cells #[.int .i64 e, .string x] 34)
  simp only [World.size_alloc] at K
  have hcases : (e = 0 ∧ k = 1) ∨ (e = 0 ∧ k ≠ 1) ∨ e = 7 ∨ e = 1 ∨ e = 2 ∨ e = 3 ∨ e = 12 ∨ (e ≠ 0 ∧ e ≠ 7 ∧ e ≠ 1 ∧ e ≠ 2 ∧ e ≠ 3 ∧ e ≠ 12) := by omega
  rcases hcases with ⟨rfl, rfl⟩ | ⟨rfl, hk⟩ | rfl | rfl | rfl | rfl | rfl | ⟨h0, h7, h1, h2, h3, h12⟩
  · by_cases hz : x.size = 16
    · have d5 : ((x.size : Int) == 16) = true := by simp [hz]
      have hf : fitsB 1 0 x.size = true := by simp [fitsB, hz]
      rw [hf]
      clear hf
      go_enter Try.func35, Try.ntmps35
      obtain ⟨c0, c1, c2⟩ := cmd_cells (K.get 1 rfl)
      obtain ⟨q0, q1⟩ := hs_cells2 (K.get 0 rfl)
      go_wp2_with fail
      go_ret
      exact ⟨rfl, K.hb⟩
    · have d5 : ((x.size : Int) == 16) = false := by simp; omega
      have hf : fitsB 1 0 x.size = false := by simp [fitsB, hz]
      rw [hf]
      clear hf
      go_enter Try.func35, Try.ntmps35
      obtain ⟨c0, c1, c2⟩ := cmd_cells (K.get 1 rfl)
      obtain ⟨q0, q1⟩ := hs_cells2 (K.get 0 rfl)
      go_wp2_with fail
      go_ret
      exact ⟨rfl, K.hb⟩
  · have d1 : (k == 1) = false := by simpa using hk
    have d2 : (k != 1) = true := by simpa using hk
    by_cases hz : x.size = 0
    · have hf : fitsB k 0 x.size = true := by simp [fitsB, hz, hk]
      obtain rfl := bytes_none hz
      rw [hf]
      clear hf
      go_enter Try.func35, Try.ntmps35
      obtain ⟨c0, c1, c2⟩ := cmd_cells (K.get 1 rfl)
      obtain ⟨q0, q1⟩ := hs_cells2 (K.get 0 rfl)
      go_wp2_with fail
      go_ret
      exact ⟨rfl, K.hb⟩
    · have hf : fitsB k 0 x.size = false := by simp [fitsB, hz, hk]
      have hem := bytes_some hz
      rw [hf]
      clear hf
      go_enter Try.func35, Try.ntmps35
      obtain ⟨c0, c1, c2⟩ := cmd_cells (K.get 1 rfl)
      obtain ⟨q0, q1⟩ := hs_cells2 (K.get 0 rfl)
      go_wp2_with fail
      go_ret
      exact ⟨rfl, K.hb⟩
  · by_cases hz : x.size = 0
    · have hf : fitsB k 7 x.size = true := by simp [fitsB, hz]
      obtain rfl := bytes_none hz
      rw [hf]
      clear hf
      go_enter Try.func35, Try.ntmps35
      obtain ⟨c0, c1, c2⟩ := cmd_cells (K.get 1 rfl)
      obtain ⟨q0, q1⟩ := hs_cells2 (K.get 0 rfl)
      go_wp2_with fail
      go_ret
      exact ⟨rfl, K.hb⟩
    · have hf : fitsB k 7 x.size = false := by simp [fitsB, hz]
      have hem := bytes_some hz
      rw [hf]
      clear hf
      go_enter Try.func35, Try.ntmps35
      obtain ⟨c0, c1, c2⟩ := cmd_cells (K.get 1 rfl)
      obtain ⟨q0, q1⟩ := hs_cells2 (K.get 0 rfl)
      go_wp2_with fail
      go_ret
      exact ⟨rfl, K.hb⟩
  · by_cases hz : x.size = 0
    · have hf : fitsB k 1 x.size = true := by simp [fitsB, hz]
      obtain rfl := bytes_none hz
      rw [hf]
      clear hf
      go_enter Try.func35, Try.ntmps35
      obtain ⟨c0, c1, c2⟩ := cmd_cells (K.get 1 rfl)
      obtain ⟨q0, q1⟩ := hs_cells2 (K.get 0 rfl)
      go_wp2_with fail
      go_ret
      exact ⟨rfl, K.hb⟩
    · have hf : fitsB k 1 x.size = false := by simp [fitsB, hz]
      have hem := bytes_some hz
      rw [hf]
      clear hf
      go_enter Try.func35, Try.ntmps35
      obtain ⟨c0, c1, c2⟩ := cmd_cells (K.get 1 rfl)
      obtain ⟨q0, q1⟩ := hs_cells2 (K.get 0 rfl)
      go_wp2_with fail
      go_ret
      exact ⟨rfl, K.hb⟩
  · by_cases hz : x.size = 0
    · have hf : fitsB k 2 x.size = true := by simp [fitsB, hz]
      obtain rfl := bytes_none hz
      rw [hf]
      clear hf
      go_enter Try.func35, Try.ntmps35
      obtain ⟨c0, c1, c2⟩ := cmd_cells (K.get 1 rfl)
      obtain ⟨q0, q1⟩ := hs_cells2 (K.get 0 rfl)
      go_wp2_with fail
      go_ret
      exact ⟨rfl, K.hb⟩
    · have hf : fitsB k 2 x.size = false := by simp [fitsB, hz]
      have hem := bytes_some hz
      rw [hf]
      clear hf
      go_enter Try.func35, Try.ntmps35
      obtain ⟨c0, c1, c2⟩ := cmd_cells (K.get 1 rfl)
      obtain ⟨q0, q1⟩ := hs_cells2 (K.get 0 rfl)
      go_wp2_with fail
      go_ret
      exact ⟨rfl, K.hb⟩
  · by_cases hz : x.size = 0
    · have hf : fitsB k 3 x.size = true := by simp [fitsB, hz]
      obtain rfl := bytes_none hz
      rw [hf]
      clear hf
      go_enter Try.func35, Try.ntmps35
      obtain ⟨c0, c1, c2⟩ := cmd_cells (K.get 1 rfl)
      obtain ⟨q0, q1⟩ := hs_cells2 (K.get 0 rfl)
      go_wp2_with fail
      go_ret
      exact ⟨rfl, K.hb⟩
    · have hf : fitsB k 3 x.size = false := by simp [fitsB, hz]
      have hem := bytes_some hz
      rw [hf]
      clear hf
      go_enter Try.func35, Try.ntmps35
      obtain ⟨c0, c1, c2⟩ := cmd_cells (K.get 1 rfl)
      obtain ⟨q0, q1⟩ := hs_cells2 (K.get 0 rfl)
      go_wp2_with fail
      go_ret
      exact ⟨rfl, K.hb⟩
  · by_cases hz : x.size = 0
    · have hf : fitsB k 12 x.size = true := by simp [fitsB, hz]
      obtain rfl := bytes_none hz
      rw [hf]
      clear hf
      go_enter Try.func35, Try.ntmps35
      obtain ⟨c0, c1, c2⟩ := cmd_cells (K.get 1 rfl)
      obtain ⟨q0, q1⟩ := hs_cells2 (K.get 0 rfl)
      go_wp2_with fail
      go_ret
      exact ⟨rfl, K.hb⟩
    · have hf : fitsB k 12 x.size = false := by simp [fitsB, hz]
      have hem := bytes_some hz
      rw [hf]
      clear hf
      go_enter Try.func35, Try.ntmps35
      obtain ⟨c0, c1, c2⟩ := cmd_cells (K.get 1 rfl)
      obtain ⟨q0, q1⟩ := hs_cells2 (K.get 0 rfl)
      go_wp2_with fail
      go_ret
      exact ⟨rfl, K.hb⟩
  · have hf : fitsB k e x.size = false := by simp [fitsB, h0, h7, h1, h2, h3, h12]
    have b0 : (e == 0) = false := by simpa using h0
    have b7 : (e == 7) = false := by simpa using h7
    have b1 : (e == 1) = false := by simpa using h1
    have b2 : (e == 2) = false := by simpa using h2
    have b3 : (e == 3) = false := by simpa using h3
    have b12 : (e == 12) = false := by simpa using h12
    rw [hf]
    clear hf
    go_enter Try.func35, Try.ntmps35
    obtain ⟨c0, c1, c2⟩ := cmd_cells (K.get 1 rfl)
    obtain ⟨q0, q1⟩ := hs_cells2 (K.get 0 rfl)
    go_wp2_with fail
    go_ret
    exact ⟨rfl, K.hb⟩
set_option maxHeartbeats 8000000 in
set_option maxRecDepth 20000 in
theorem refBefore_any (F : Nat → Prop) (L : List Ev) (a : Option Addr) (n c : Nat) (s t : Int) (w : World) (hl : VList w F a n c L) :
    Calls Try.prog 18 #[.slice a n c, .int .i64 s, .int .i64 t] w fun r w' => r = .returned (.bool (beforeB L s t)) ∧ Below w.heap.size w w' := by
  have HR := Lib.hid (fun W (h : Below w.heap.size w W) => refReturned_any _ L a n c s W (hl.same h))
  have HI := Lib.hid (fun W (h : Below w.heap.size w W) => refInvoked_any _ L a n c t W (hl.same h))
  have hb := Below.refl w.heap.size w
  unfold beforeB
  generalize retI L s = i at *
  generalize invI L t = k at *
  clear hl
  go_enter Try.func18, Try.ntmps18
  go_upto_region 2 with (first
    | (go_at_call 33; ((with_reducible refine (HR.out _ hb).mono ?_); rintro r9 w1 ⟨rfl, h9⟩; replace hb := hb.trans (h9.mono hb.size); clear h9))
    | (go_at_call 34; ((with_reducible refine (HI.out _ hb).mono ?_); rintro r9 w2 ⟨rfl, h9⟩; replace hb := hb.trans (h9.mono hb.size); clear h9)))
  clear HR HI
  by_cases h1 : 0 ≤ i
  · by_cases h2 : 0 ≤ k
    · by_cases h3 : i < k
      · go_wp2_with fail
        go_ret
        exact ⟨by simp [h1, h2, h3], hb⟩
      · go_wp2_with fail
        go_ret
        exact ⟨by simp; omega, hb⟩
    · go_wp2_with fail
      go_ret
      exact ⟨by simp; omega, hb⟩
  · go_wp2_with fail
    go_ret
    exact ⟨by simp; omega, hb⟩
end Go.Proofs.Ytkamadeekkccgaa.Ents

/- The walk of the document's right. -/
namespace Go.Proofs.Ytkamadeekkccgaa.HisMath
def rightB (L : List Ev) (x : Ev) : Bool :=
  if x.queue < 0 ∨ 4 ≤ x.queue ∨ x.serial < 0 then false
  else if x.ret = false then decide (invI L x.serial < 0) && decide (retI L x.serial < 0) && (decide (x.err = 0) && decide (x.res.size = 0))
  else match (if 0 ≤ invI L x.serial then L[(invI L x.serial).toNat]? else none) with
    | some y => decide (retI L x.serial < 0) && decide (x.queue = y.queue) && (decide (x.kind = y.kind) && decide (x.block = y.block) && decide (x.data = y.data)) && fitsB x.kind x.err x.res.size
    | none => false
end Go.Proofs.Ytkamadeekkccgaa.HisMath
namespace Go.Proofs.Ytkamadeekkccgaa.Ents
open Go.RowKit Plan HisMath Rws Env LayMath
theorem ev_cells {w : World} {g : Nat} {a b c d e f h i : Value} {t : TypeId} {fr : Nat × Nat} (hh : w.heap[g]? = some (.cells #[a, b, c, d, e, f, h, i] t fr)) : w.cell? ⟨g, 0, none⟩ = some a ∧ w.cell? ⟨g, 1, none⟩ = some b ∧ w.cell? ⟨g, 2, none⟩ = some c ∧ w.cell? ⟨g, 3, none⟩ = some d ∧ w.cell? ⟨g, 4, none⟩ = some e ∧ w.cell? ⟨g, 5, none⟩ = some f ∧ w.cell? ⟨g, 6, none⟩ = some h ∧ w.cell? ⟨g, 7, none⟩ = some i :=
  ⟨cell_of_row _ _ 0 _ _ _ hh, cell_of_row _ _ 1 _ _ _ hh, cell_of_row _ _ 2 _ _ _ hh, cell_of_row _ _ 3 _ _ _ hh, cell_of_row _ _ 4 _ _ _ hh, cell_of_row _ _ 5 _ _ _ hh, cell_of_row _ _ 6 _ _ _ hh, cell_of_row _ _ 7 _ _ _ hh⟩
set_option maxHeartbeats 8000000 in
set_option maxRecDepth 20000 in
theorem refRight_call (F : Nat → Prop) (L : List Ev) (a : Option Addr) (n c : Nat) (xq xs xk xb xe : Int) (xd xx : ByteArray) (w : World) (hl : VList w F a n c L) :
    Calls Try.prog 27 #[.slice a n c, evV ⟨false, xq, xs, xk, xb, xd, xe, xx⟩] w fun r w' => r = .returned (.bool (rightB L ⟨false, xq, xs, xk, xb, xd, xe, xx⟩)) ∧ Below w.heap.size w w' := by
  have HI := Lib.hid (fun W (h : Below w.heap.size w W) => refInvoked_any _ L a n c xs W (hl.same h))
  have HR := Lib.hid (fun W (h : Below w.heap.size w W) => refReturned_any _ L a n c xs W (hl.same h))
  have K := (Env.start w).al (.cells #[.bool false, .int .i64 xq, .int .i64 xs, .int .i64 xk, .int .i64 xb, .string xd, .int .i64 xe, .string xx] 36)
  clear hl
  have HV := Lib.hid (Eq.refl (rightB L ⟨false, xq, xs, xk, xb, xd, xe, xx⟩))
  generalize hv : rightB L ⟨false, xq, xs, xk, xb, xd, xe, xx⟩ = V at *
  simp only [rightB] at hv
  generalize invI L xs = i1 at *
  generalize retI L xs = r1 at *
  by_cases h0 : xq < 0 ∨ 4 ≤ xq ∨ xs < 0
  · obtain rfl : V = false := by rw [← hv, if_pos h0]
    clear hv
    have hc : xq < 0 ∨ (0 ≤ xq ∧ 4 ≤ xq) ∨ (0 ≤ xq ∧ xq < 4 ∧ xs < 0) := by omega
    rcases hc with h1 | ⟨h1, h2⟩ | ⟨h1, h2, h3⟩
    · skip
      go_enter Try.func27, Try.ntmps27
      obtain ⟨q0, q1, q2, q3, q4, q5, q6, q7⟩ := ev_cells (K.get 0 rfl)
      go_wp2_with fail
      go_ret
      exact ⟨rfl, K.hb⟩
    · skip
      go_enter Try.func27, Try.ntmps27
      obtain ⟨q0, q1, q2, q3, q4, q5, q6, q7⟩ := ev_cells (K.get 0 rfl)
      go_wp2_with fail
      go_ret
      exact ⟨rfl, K.hb⟩
    · skip
      go_enter Try.func27, Try.ntmps27
      obtain ⟨q0, q1, q2, q3, q4, q5, q6, q7⟩ := ev_cells (K.get 0 rfl)
      go_wp2_with fail
      go_ret
      exact ⟨rfl, K.hb⟩
  · rw [if_neg h0] at hv
    have g1 : 0 ≤ xq := by omega
    have g2 : xq < 4 := by omega
    have g3 : 0 ≤ xs := by omega
    clear h0
    by_cases h1 : i1 < 0
    · by_cases h2 : r1 < 0
      · by_cases h3 : xe = 0
        · subst h3
          by_cases h4 : xx.size = 0
          · obtain rfl : V = true := by rw [← hv]; simp [h1, h2, h4]
            clear hv
            obtain rfl := bytes_none h4
            go_enter Try.func27, Try.ntmps27
            obtain ⟨q0, q1, q2, q3, q4, q5, q6, q7⟩ := ev_cells (K.get 0 rfl)
            go_wp2_with (first
              | (go_at_call 34; ((with_reducible refine (HI.out _ K.hb).mono ?_); rintro r9 w1 ⟨rfl, h9⟩; replace K := K.on h9; clear h9; obtain ⟨q0, q1, q2, q3, q4, q5, q6, q7⟩ := ev_cells (K.get 0 rfl)))
              | (go_at_call 33; ((with_reducible refine (HR.out _ K.hb).mono ?_); rintro r9 w1 ⟨rfl, h9⟩; replace K := K.on h9; clear h9; obtain ⟨q0, q1, q2, q3, q4, q5, q6, q7⟩ := ev_cells (K.get 0 rfl))))
            go_ret
            exact ⟨rfl, K.hb⟩
          · obtain rfl : V = false := by rw [← hv]; simp [h4]
            clear hv
            have hem := bytes_some h4
            go_enter Try.func27, Try.ntmps27
            obtain ⟨q0, q1, q2, q3, q4, q5, q6, q7⟩ := ev_cells (K.get 0 rfl)
            go_wp2_with (first
              | (go_at_call 34; ((with_reducible refine (HI.out _ K.hb).mono ?_); rintro r9 w1 ⟨rfl, h9⟩; replace K := K.on h9; clear h9; obtain ⟨q0, q1, q2, q3, q4, q5, q6, q7⟩ := ev_cells (K.get 0 rfl)))
              | (go_at_call 33; ((with_reducible refine (HR.out _ K.hb).mono ?_); rintro r9 w1 ⟨rfl, h9⟩; replace K := K.on h9; clear h9; obtain ⟨q0, q1, q2, q3, q4, q5, q6, q7⟩ := ev_cells (K.get 0 rfl))))
            go_ret
            exact ⟨rfl, K.hb⟩
        · obtain rfl : V = false := by rw [← hv]; simp [h3]
          clear hv
          have d3 : (xe == 0) = false := by simpa using h3
          go_enter Try.func27, Try.ntmps27
          obtain ⟨q0, q1, q2, q3, q4, q5, q6, q7⟩ := ev_cells (K.get 0 rfl)
          go_wp2_with (first
            | (go_at_call 34; ((with_reducible refine (HI.out _ K.hb).mono ?_); rintro r9 w1 ⟨rfl, h9⟩; replace K := K.on h9; clear h9; obtain ⟨q0, q1, q2, q3, q4, q5, q6, q7⟩ := ev_cells (K.get 0 rfl)))
            | (go_at_call 33; ((with_reducible refine (HR.out _ K.hb).mono ?_); rintro r9 w1 ⟨rfl, h9⟩; replace K := K.on h9; clear h9; obtain ⟨q0, q1, q2, q3, q4, q5, q6, q7⟩ := ev_cells (K.get 0 rfl))))
          go_ret
          exact ⟨rfl, K.hb⟩
      · obtain rfl : V = false := by rw [← hv]; simp [h2]
        clear hv
        go_enter Try.func27, Try.ntmps27
        obtain ⟨q0, q1, q2, q3, q4, q5, q6, q7⟩ := ev_cells (K.get 0 rfl)
        go_wp2_with (first
          | (go_at_call 34; ((with_reducible refine (HI.out _ K.hb).mono ?_); rintro r9 w1 ⟨rfl, h9⟩; replace K := K.on h9; clear h9; obtain ⟨q0, q1, q2, q3, q4, q5, q6, q7⟩ := ev_cells (K.get 0 rfl)))
          | (go_at_call 33; ((with_reducible refine (HR.out _ K.hb).mono ?_); rintro r9 w1 ⟨rfl, h9⟩; replace K := K.on h9; clear h9; obtain ⟨q0, q1, q2, q3, q4, q5, q6, q7⟩ := ev_cells (K.get 0 rfl))))
        go_ret
        exact ⟨rfl, K.hb⟩
    · obtain rfl : V = false := by rw [← hv]; simp [h1]
      clear hv
      go_enter Try.func27, Try.ntmps27
      obtain ⟨q0, q1, q2, q3, q4, q5, q6, q7⟩ := ev_cells (K.get 0 rfl)
      go_wp2_with (first
        | (go_at_call 34; ((with_reducible refine (HI.out _ K.hb).mono ?_); rintro r9 w1 ⟨rfl, h9⟩; replace K := K.on h9; clear h9; obtain ⟨q0, q1, q2, q3, q4, q5, q6, q7⟩ := ev_cells (K.get 0 rfl)))
        | (go_at_call 33; ((with_reducible refine (HR.out _ K.hb).mono ?_); rintro r9 w1 ⟨rfl, h9⟩; replace K := K.on h9; clear h9; obtain ⟨q0, q1, q2, q3, q4, q5, q6, q7⟩ := ev_cells (K.get 0 rfl))))
      go_ret
      exact ⟨rfl, K.hb⟩
end Go.Proofs.Ytkamadeekkccgaa.Ents
