/- Lists of records and of strings that the call owns, beside dice. -/
import Derived.Test.YtjihkcjoaefppaaMakeStrs
namespace Go.Proofs.Ytjihkcjoaefppaa
open Go.RowKit Plan

/-- a record as cells -/
def recCells (r : RecMath.Rec) : List Value := [.int .i64 r.kind, .int .i64 r.block, .int .i64 r.version, .int .i64 r.move, .string ⟨r.payload.toArray⟩]
def recs : List RecMath.Rec → List Value
  | [] => []
  | r :: R => recCells r ++ recs R
theorem recs_length : ∀ R : List RecMath.Rec, (recs R).length = R.length * 5
  | [] => rfl
  | r :: R => by
    rw [recs, List.length_append, recs_length R, List.length_cons, show (recCells r).length = 5 from rfl]
    omega
theorem recs_app : ∀ R T : List RecMath.Rec, recs (R ++ T) = recs R ++ recs T
  | [], T => rfl
  | r :: R, T => by rw [List.cons_append, recs, recs, recs_app R T, List.append_assoc]
theorem recs_one (r : RecMath.Rec) : recs [r] = recCells r := by simp [recs]
theorem recs_cells (r : RecMath.Rec) : ∀ u ∈ recCells r, u.oneCell' = true := by
  intro u hu
  simp only [recCells, List.mem_cons, List.not_mem_nil, or_false] at hu
  rcases hu with rfl | rfl | rfl | rfl | rfl <;> rfl
theorem recs_get : ∀ (R : List RecMath.Rec) (q : Nat) (r : RecMath.Rec), R[q]? = some r → ∀ i, i < 5 → (recs R)[q * 5 + i]? = (recCells r)[i]?
  | [], q, r, h, i, hi => by cases h
  | a :: R, 0, r, h, i, hi => by
    obtain rfl : a = r := by simpa using h
    rw [recs, List.getElem?_append_left (by rw [show (recCells a).length = 5 from rfl]; omega)]
    congr 1; omega
  | a :: R, q + 1, r, h, i, hi => by
    rw [recs, List.getElem?_append_right (by rw [show (recCells a).length = 5 from rfl]; omega), show (recCells a).length = 5 from rfl]
    have := recs_get R q r (by simpa using h) i hi
    rw [← this]
    congr 1; omega
theorem recs_set : ∀ (R : List RecMath.Rec) (q : Nat) (r : RecMath.Rec) (b : Int), R[q]? = some r → (recs R).set (q * 5 + 1) (.int .i64 b) = recs (R.set q ⟨r.kind, b, r.version, r.move, r.payload⟩)
  | [], q, r, b, h => by cases h
  | a :: R, 0, r, b, h => by
    obtain rfl : a = r := by simpa using h
    rfl
  | a :: R, q + 1, r, b, h => by
    rw [List.set_cons_succ, recs, recs, List.set_append_right _ _ (by rw [show (recCells a).length = 5 from rfl]; omega), show (recCells a).length = 5 from rfl]
    have := recs_set R q r b (by simpa using h)
    rw [← this]
    congr 2; omega
theorem rec_info6 : (Try.prog.info? 24).map (fun i => (i.zero, i.size, i.bytes)) = some (some (.agg #[.int .i64 0, .int .i64 0, .int .i64 0, .int .i64 0, .string ByteArray.empty]), 5, 48) := by kernel_rfl
theorem owns_keep {w w' : World} {B sz : Nat} {t : TypeId} {v : Value} {n : Nat} {xs : List Value} (h : w.ownsRow B t sz v n xs) (hb : Below w.heap.size w w') : w'.ownsRow B t sz v n xs :=
  h.kept (below_none hb) (by cases hv : v.ownBlock <;> simp)
theorem owns_far {w : World} {B sz g : Nat} {t : TypeId} {v : Value} {n : Nat} {xs : List Value} (h : w.ownsRow B t sz v n xs) (hg : g < B) : v.ownBlock = none ∨ v.ownBlock ≠ some g := by
  refine .inr fun e => ?_
  have := (h.lt g e).1
  omega
/-- lists of different types lie in different blocks -/
theorem owns_ne {w : World} {B C s1 s2 : Nat} {t1 t2 : TypeId} {v1 v2 : Value} {n1 n2 : Nat} {x1 x2 : List Value} (h1 : w.ownsRow B t1 s1 v1 n1 x1) (h2 : w.ownsRow C t2 s2 v2 n2 x2) (ht : t1 ≠ t2) : v1.ownBlock = none ∨ v1.ownBlock ≠ v2.ownBlock := by
  rcases h1.2 with ⟨rfl, _⟩ | ⟨g1, c1, cur1, rfl, _, hg1, _⟩
  · exact .inl rfl
  · refine .inr fun e => ?_
    rcases h2.2 with ⟨rfl, _⟩ | ⟨g2, c2, cur2, rfl, _, hg2, _⟩
    · cases e
    · have e : some g1 = some g2 := e
      obtain rfl := Option.some.inj e
      rw [hg1] at hg2
      have := Option.some.inj hg2
      injection this with _ h3 _
      exact ht h3
theorem dice_grows {w w' : World} {base g B sz : Nat} {t : TypeId} {zs : List Int} {k : Nat} {v : Value} {n : Nat} {xs : List Value} (h : Dice w base g zs k) (ho : w.ownsRow B t sz v n xs) (hB : g < B) (hg : w.grownBy w' v.ownBlock) : Dice w' base g zs k := by
  cases hv : v.ownBlock with
  | none =>
    rw [hv] at hg
    exact dice_on h ⟨hg.os, hg.tape, hg.output, hg.size, fun i hi => hg.block i hi (by simp)⟩ (Nat.le_refl _)
  | some b =>
    rw [hv] at hg
    exact dice_far h hg (by have := (ho.lt b hv).1; omega)
theorem below_grows {B : Nat} {w0 w w' : World} {C sz : Nat} {t : TypeId} {v : Value} {n : Nat} {xs : List Value} (hb : Below B w0 w) (ho : w.ownsRow C t sz v n xs) (hC : B ≤ C) (hB : B ≤ w.heap.size) (hg : w.grownBy w' v.ownBlock) : Below B w0 w' :=
  hb.grown hg hB (fun k hk => by have := (ho.lt k hk).1; omega)
/-- a block that no list owns stays -/
theorem row_grows {w w' : World} {v : Value} {x : Nat} {o : Obj} (hx : w.heap[x]? = some o) (hg : w.grownBy w' v.ownBlock) (hne : v.ownBlock ≠ some x) : w'.heap[x]? = some o :=
  (hg.block x (Array.getElem?_eq_some_iff.1 hx).1 (fun e => hne e.symm)).trans hx
/-- what the call owns: dice, and a list of strings and one of records above them -/
structure Duo (w : World) (base g : Nat) (zs : List Int) (k : Nat) (v : Value) (L : List ByteArray) (u : Value) (R : List RecMath.Rec) : Prop where
  dice : Dice w base g zs k
  s : w.ownsRow (g + 1) 9 1 v L.length (strs L)
  r : w.ownsRow (g + 1) 24 5 u R.length (recs R)
theorem Duo.nil {w : World} {base g : Nat} {zs : List Int} {k : Nat} (h : Dice w base g zs k) : Duo w base g zs k (.slice none 0 0) [] (.slice none 0 0) [] := ⟨h, World.ownsRow_nil w _ _ _, World.ownsRow_nil w _ _ _⟩
section
variable {w w' : World} {base g : Nat} {zs : List Int} {k k' : Nat} {v v' u u' : Value} {L : List ByteArray} {R : List RecMath.Rec}
theorem Duo.made (h : Duo w base g zs k v L u R) (hd : Dice w' base g zs k') (hg : w.grownBy w' (some g)) : Duo w' base g zs k' v L u R :=
  ⟨hd, h.s.kept hg (owns_far h.s (Nat.lt_succ_self g)), h.r.kept hg (owns_far h.r (Nat.lt_succ_self g))⟩
theorem Duo.on (h : Duo w base g zs k v L u R) (hb : Below w.heap.size w w') : Duo w' base g zs k v L u R :=
  ⟨dice_on h.dice hb (Nat.le_refl _), owns_keep h.s hb, owns_keep h.r hb⟩
theorem Duo.al (h : Duo w base g zs k v L u R) (o : Obj) : Duo (w.alloc o) base g zs k v L u R :=
  h.on ((Below.refl _ _).alloc (Nat.le_refl _) _)
theorem Duo.appS {s : ByteArray} (h : Duo w base g zs k v L u R) (ho : w'.ownsRow (g + 1) 9 1 v' (L.length + 1) (strs L ++ [.string s])) (hg : w.grownBy w' v.ownBlock) : Duo w' base g zs k v' (L ++ [s]) u R :=
  ⟨dice_grows h.dice h.s (Nat.lt_succ_self g) hg, by rw [strs_app, List.length_append]; exact ho, h.r.kept hg (owns_ne h.r h.s (by decide))⟩
theorem Duo.appR {r : RecMath.Rec} (h : Duo w base g zs k v L u R) (ho : w'.ownsRow (g + 1) 24 5 u' (R.length + 1) (recs R ++ recCells r)) (hg : w.grownBy w' u.ownBlock) : Duo w' base g zs k v L u' (R ++ [r]) :=
  ⟨dice_grows h.dice h.r (Nat.lt_succ_self g) hg, h.s.kept hg (owns_ne h.s h.r (by decide)), by rw [recs_app, recs_one, List.length_append]; exact ho⟩
end
/-- a list of records that the call owns, written out -/
theorem owns_recs {w : World} {B : Nat} {v : Value} {n : Nat} {xs : List Value} (h : w.ownsRow B 24 5 v n xs) (h0 : 0 < n) : ∃ g cap, v = .slice (some ⟨g, 0, none⟩) n cap ∧ B ≤ g ∧ g < w.heap.size := h.form h0
theorem recs_five {w : World} {B g n cap : Nat} {R : List RecMath.Rec} (h : w.ownsRow B 24 5 (.slice (some ⟨g, 0, none⟩) n cap) n (recs R)) {q : Nat} {r : RecMath.Rec} (hr : R[q]? = some r) :
    ∀ i, i < 5 → w.cell? ⟨g, q * 5 + i, none⟩ = (recCells r)[i]? := by
  intro i hi
  have h1 := recs_get R q r hr i hi
  have h2 : ∃ u, (recCells r)[i]? = some u := ⟨(recCells r)[i]'(by rw [show (recCells r).length = 5 from rfl]; exact hi), List.getElem?_eq_getElem _⟩
  obtain ⟨u, hu⟩ := h2
  rw [hu] at h1 ⊢
  have := h.cells (g := g) rfl _ u h1
  rwa [Addr.add_lit, Nat.zero_add] at this
theorem owns_free {w : World} {B sz g n cap : Nat} {t : TypeId} {xs : List Value} (h : w.ownsRow B t sz (.slice (some ⟨g, 0, none⟩) n cap) n xs) (q : Nat) : w.frozen? ⟨g, q, none⟩ = false := by
  rcases h.2 with ⟨h, _⟩ | ⟨g', cap', cur, hv, hb, hg, _⟩
  · cases h
  · cases hv
    exact row_free hg q
/-- a list of records in which one has another block -/
theorem recs_store {w : World} {B g n cap : Nat} {R : List RecMath.Rec} (h : w.ownsRow B 24 5 (.slice (some ⟨g, 0, none⟩) n cap) n (recs R)) {q : Nat} {r : RecMath.Rec} (hr : R[q]? = some r) (b : Int) :
    (w.setCell ⟨g, q * 5 + 1, none⟩ (.int .i64 b)).ownsRow B 24 5 (.slice (some ⟨g, 0, none⟩) n cap) n (recs (R.set q ⟨r.kind, b, r.version, r.move, r.payload⟩)) := by
  obtain ⟨h1, h2⟩ := h
  rcases h2 with ⟨h, _⟩ | ⟨g', cap', cur, hv, hb, hg, k1, k2, k3, k4⟩
  · cases h
  · cases hv
    refine ⟨by rw [recs_length, List.length_set, ← recs_length]; exact h1, .inr ⟨g, cap, cur.setIfInBounds (q * 5 + 1) (.int .i64 b), rfl, hb, setCell_row hg _ _, k1, k2, by simpa using k3, ?_⟩⟩
    rw [Array.toList_setIfInBounds, List.take_set, k4, recs_set R q r b hr]
end Go.Proofs.Ytjihkcjoaefppaa
