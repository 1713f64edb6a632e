/- Texts that belong together, part 15. -/
import Derived.Test.YthhggiifbldaeaaPack14
import Derived.Deep.AppendLies
import Derived.OneCell
import Derived.Deep.MidRow

/- Lists of records and of strings that the call owns, beside dice. -/
namespace Go.Proofs.Ythhggiifbldaeaa
open Go.RowKit Plan

/-- a record as cells -/
def recCells (r : RecMath.Rec) : List Value := [.int .i64 r.kind, .int .i64 r.block, .int .i64 r.version, .int .i64 r.move, .string ⟨r.payload.toArray⟩]
def recs : List RecMath.Rec → List Value
  | [] => []
  | r :: R => recCells r ++ recs R
theorem recs_length : ∀ R : List RecMath.Rec, (recs R).length = R.length * 5
  | [] => rfl
  | r :: R => by
    rw [recs, List.length_append, recs_length R, List.length_cons, show (recCells r).length = 5 from rfl]
    omega
theorem recs_app : ∀ R T : List RecMath.Rec, recs (R ++ T) = recs R ++ recs T
  | [], T => rfl
  | r :: R, T => by rw [List.cons_append, recs, recs, recs_app R T, List.append_assoc]
theorem recs_one (r : RecMath.Rec) : recs [r] = recCells r := by simp [recs]
theorem recs_cells (r : RecMath.Rec) : ∀ u ∈ recCells r, u.oneCell' = true := by
  intro u hu
  simp only [recCells, List.mem_cons, List.not_mem_nil, or_false] at hu
  rcases hu with rfl | rfl | rfl | rfl | rfl <;> rfl
theorem recs_get : ∀ (R : List RecMath.Rec) (q : Nat) (r : RecMath.Rec), R[q]? = some r → ∀ i, i < 5 → (recs R)[q * 5 + i]? = (recCells r)[i]?
  | [], q, r, h, i, hi => by cases h
  | a :: R, 0, r, h, i, hi => by
    obtain rfl : a = r := by simpa using h
    rw [recs, List.getElem?_append_left (by rw [show (recCells a).length = 5 from rfl]; omega)]
    congr 1; omega
  | a :: R, q + 1, r, h, i, hi => by
    rw [recs, List.getElem?_append_right (by rw [show (recCells a).length = 5 from rfl]; omega), show (recCells a).length = 5 from rfl]
    have := recs_get R q r (by simpa using h) i hi
    rw [← this]
    congr 1; omega
theorem recs_set : ∀ (R : List RecMath.Rec) (q : Nat) (r : RecMath.Rec) (b : Int), R[q]? = some r → (recs R).set (q * 5 + 1) (.int .i64 b) = recs (R.set q ⟨r.kind, b, r.version, r.move, r.payload⟩)
  | [], q, r, b, h => by cases h
  | a :: R, 0, r, b, h => by
    obtain rfl : a = r := by simpa using h
    rfl
  | a :: R, q + 1, r, b, h => by
    rw [List.set_cons_succ, recs, recs, List.set_append_right _ _ (by rw [show (recCells a).length = 5 from rfl]; omega), show (recCells a).length = 5 from rfl]
    have := recs_set R q r b (by simpa using h)
    rw [← this]
    congr 2; omega
theorem rec_info6 : (Try.prog.info? 81).map (fun i => (i.zero, i.size, i.bytes)) = some (some (.agg #[.int .i64 0, .int .i64 0, .int .i64 0, .int .i64 0, .string ByteArray.empty]), 5, 48) := by kernel_rfl
theorem owns_keep {w w' : World} {B sz : Nat} {t : TypeId} {v : Value} {n : Nat} {xs : List Value} (h : w.ownsRow B t sz v n xs) (hb : Below w.heap.size w w') : w'.ownsRow B t sz v n xs :=
  h.kept (below_none hb) (by cases hv : v.ownBlock <;> simp)
theorem owns_far {w : World} {B sz g : Nat} {t : TypeId} {v : Value} {n : Nat} {xs : List Value} (h : w.ownsRow B t sz v n xs) (hg : g < B) : v.ownBlock = none ∨ v.ownBlock ≠ some g := by
  refine .inr fun e => ?_
  have := (h.lt g e).1
  omega
/-- lists of different types lie in different blocks -/
theorem owns_ne {w : World} {B C s1 s2 : Nat} {t1 t2 : TypeId} {v1 v2 : Value} {n1 n2 : Nat} {x1 x2 : List Value} (h1 : w.ownsRow B t1 s1 v1 n1 x1) (h2 : w.ownsRow C t2 s2 v2 n2 x2) (ht : t1 ≠ t2) : v1.ownBlock = none ∨ v1.ownBlock ≠ v2.ownBlock := by
  rcases h1.2 with ⟨rfl, _⟩ | ⟨g1, c1, cur1, rfl, _, hg1, _⟩
  · exact .inl rfl
  · refine .inr fun e => ?_
    rcases h2.2 with ⟨rfl, _⟩ | ⟨g2, c2, cur2, rfl, _, hg2, _⟩
    · cases e
    · have e : some g1 = some g2 := e
      obtain rfl := Option.some.inj e
      rw [hg1] at hg2
      have := Option.some.inj hg2
      injection this with _ h3 _
      exact ht h3
theorem dice_grows {w w' : World} {base g B sz : Nat} {t : TypeId} {zs : List Int} {k : Nat} {v : Value} {n : Nat} {xs : List Value} (h : Dice w base g zs k) (ho : w.ownsRow B t sz v n xs) (hB : g < B) (hg : w.grownBy w' v.ownBlock) : Dice w' base g zs k := by
  cases hv : v.ownBlock with
  | none =>
    rw [hv] at hg
    exact dice_on h ⟨hg.os, hg.tape, hg.output, hg.size, fun i hi => hg.block i hi (by simp)⟩ (Nat.le_refl _)
  | some b =>
    rw [hv] at hg
    exact dice_far h hg (by have := (ho.lt b hv).1; omega)
theorem below_grows {B : Nat} {w0 w w' : World} {C sz : Nat} {t : TypeId} {v : Value} {n : Nat} {xs : List Value} (hb : Below B w0 w) (ho : w.ownsRow C t sz v n xs) (hC : B ≤ C) (hB : B ≤ w.heap.size) (hg : w.grownBy w' v.ownBlock) : Below B w0 w' :=
  hb.grown hg hB (fun k hk => by have := (ho.lt k hk).1; omega)
/-- a block that no list owns stays -/
theorem row_grows {w w' : World} {v : Value} {x : Nat} {o : Obj} (hx : w.heap[x]? = some o) (hg : w.grownBy w' v.ownBlock) (hne : v.ownBlock ≠ some x) : w'.heap[x]? = some o :=
  (hg.block x (Array.getElem?_eq_some_iff.1 hx).1 (fun e => hne e.symm)).trans hx
/-- what the call owns: dice, and a list of strings and one of records above them -/
structure Duo (w : World) (base g : Nat) (zs : List Int) (k : Nat) (v : Value) (L : List ByteArray) (u : Value) (R : List RecMath.Rec) : Prop where
  dice : Dice w base g zs k
  s : w.ownsRow (g + 1) 9 1 v L.length (strs L)
  r : w.ownsRow (g + 1) 81 5 u R.length (recs R)
theorem Duo.nil {w : World} {base g : Nat} {zs : List Int} {k : Nat} (h : Dice w base g zs k) : Duo w base g zs k (.slice none 0 0) [] (.slice none 0 0) [] := ⟨h, World.ownsRow_nil w _ _ _, World.ownsRow_nil w _ _ _⟩
section
variable {w w' : World} {base g : Nat} {zs : List Int} {k k' : Nat} {v v' u u' : Value} {L : List ByteArray} {R : List RecMath.Rec}
theorem Duo.made (h : Duo w base g zs k v L u R) (hd : Dice w' base g zs k') (hg : w.grownBy w' (some g)) : Duo w' base g zs k' v L u R :=
  ⟨hd, h.s.kept hg (owns_far h.s (Nat.lt_succ_self g)), h.r.kept hg (owns_far h.r (Nat.lt_succ_self g))⟩
theorem Duo.on (h : Duo w base g zs k v L u R) (hb : Below w.heap.size w w') : Duo w' base g zs k v L u R :=
  ⟨dice_on h.dice hb (Nat.le_refl _), owns_keep h.s hb, owns_keep h.r hb⟩
theorem Duo.al (h : Duo w base g zs k v L u R) (o : Obj) : Duo (w.alloc o) base g zs k v L u R :=
  h.on ((Below.refl _ _).alloc (Nat.le_refl _) _)
theorem Duo.appS {s : ByteArray} (h : Duo w base g zs k v L u R) (ho : w'.ownsRow (g + 1) 9 1 v' (L.length + 1) (strs L ++ [.string s])) (hg : w.grownBy w' v.ownBlock) : Duo w' base g zs k v' (L ++ [s]) u R :=
  ⟨dice_grows h.dice h.s (Nat.lt_succ_self g) hg, by rw [strs_app, List.length_append]; exact ho, h.r.kept hg (owns_ne h.r h.s (by decide))⟩
theorem Duo.appR {r : RecMath.Rec} (h : Duo w base g zs k v L u R) (ho : w'.ownsRow (g + 1) 81 5 u' (R.length + 1) (recs R ++ recCells r)) (hg : w.grownBy w' u.ownBlock) : Duo w' base g zs k v L u' (R ++ [r]) :=
  ⟨dice_grows h.dice h.r (Nat.lt_succ_self g) hg, h.s.kept hg (owns_ne h.s h.r (by decide)), by rw [recs_app, recs_one, List.length_append]; exact ho⟩
end
/-- a list of records that the call owns, written out -/
theorem owns_recs {w : World} {B : Nat} {v : Value} {n : Nat} {xs : List Value} (h : w.ownsRow B 81 5 v n xs) (h0 : 0 < n) : ∃ g cap, v = .slice (some ⟨g, 0, none⟩) n cap ∧ B ≤ g ∧ g < w.heap.size := h.form h0
theorem recs_five {w : World} {B g n cap : Nat} {R : List RecMath.Rec} (h : w.ownsRow B 81 5 (.slice (some ⟨g, 0, none⟩) n cap) n (recs R)) {q : Nat} {r : RecMath.Rec} (hr : R[q]? = some r) :
    ∀ i, i < 5 → w.cell? ⟨g, q * 5 + i, none⟩ = (recCells r)[i]? := by
  intro i hi
  have h1 := recs_get R q r hr i hi
  have h2 : ∃ u, (recCells r)[i]? = some u := ⟨(recCells r)[i]'(by rw [show (recCells r).length = 5 from rfl]; exact hi), List.getElem?_eq_getElem _⟩
  obtain ⟨u, hu⟩ := h2
  rw [hu] at h1 ⊢
  have := h.cells (g := g) rfl _ u h1
  rwa [Addr.add_lit, Nat.zero_add] at this
theorem owns_free {w : World} {B sz g n cap : Nat} {t : TypeId} {xs : List Value} (h : w.ownsRow B t sz (.slice (some ⟨g, 0, none⟩) n cap) n xs) (q : Nat) : w.frozen? ⟨g, q, none⟩ = false := by
  rcases h.2 with ⟨h, _⟩ | ⟨g', cap', cur, hv, hb, hg, _⟩
  · cases h
  · cases hv
    exact row_free hg q
/-- a list of records in which one has another block -/
theorem recs_store {w : World} {B g n cap : Nat} {R : List RecMath.Rec} (h : w.ownsRow B 81 5 (.slice (some ⟨g, 0, none⟩) n cap) n (recs R)) {q : Nat} {r : RecMath.Rec} (hr : R[q]? = some r) (b : Int) :
    (w.setCell ⟨g, q * 5 + 1, none⟩ (.int .i64 b)).ownsRow B 81 5 (.slice (some ⟨g, 0, none⟩) n cap) n (recs (R.set q ⟨r.kind, b, r.version, r.move, r.payload⟩)) := by
  obtain ⟨h1, h2⟩ := h
  rcases h2 with ⟨h, _⟩ | ⟨g', cap', cur, hv, hb, hg, k1, k2, k3, k4⟩
  · cases h
  · cases hv
    refine ⟨by rw [recs_length, List.length_set, ← recs_length]; exact h1, .inr ⟨g, cap, cur.setIfInBounds (q * 5 + 1) (.int .i64 b), rfl, hb, setCell_row hg _ _, k1, k2, by simpa using k3, ?_⟩⟩
    rw [Array.toList_setIfInBounds, List.take_set, k4, recs_set R q r b hr]
end Go.Proofs.Ythhggiifbldaeaa

/- Devices whose lists lie in blocks of a set: what is written elsewhere leaves them as they are. -/
namespace Go.Proofs.Ythhggiifbldaeaa
open Go.RowKit Plan ZnsMath

/-- two worlds that agree on the blocks of a set -/
def Agree (F : Nat → Prop) (w w' : World) : Prop := w.heap.size ≤ w'.heap.size ∧ ∀ b, F b → b < w.heap.size → w'.heap[b]? = w.heap[b]?
theorem Agree.cell {F : Nat → Prop} {w w' : World} (h : Agree F w w') {x : Addr} {v : Value} (hx : F x.block) (hc : w.cell? x = some v) : w'.cell? x = some v := by
  rw [World.cell?_of_block (h.2 x.block hx (block_lt_of_cell hc)), hc]
theorem Agree.below {F : Nat → Prop} {w w' : World} (hb : Below w.heap.size w w') : Agree F w w' := ⟨hb.size, fun b _ hlt => hb.block b hlt⟩
theorem Agree.row {F : Nat → Prop} {w : World} {r : Nat} (hr : ¬ F r) (cs : Array Value) : Agree F w (w.setRow r cs) :=
  ⟨Nat.le_of_eq (by simp [World.setRow]), fun b hb _ => setRow_other _ _ _ _ (fun e => hr (e ▸ hb))⟩
theorem Agree.setCell {F : Nat → Prop} {w : World} {p : Addr} (hr : ¬ F p.block) (u : Value) : Agree F w (w.setCell p u) :=
  ⟨Nat.le_of_eq (by simp [World.setCell]), fun b hb _ => Below.heap_setCell _ _ _ _ (fun e => hr (e ▸ hb))⟩
/-- a list of strings in the blocks of a set -/
def StrsIn (w : World) (F : Nat → Prop) (a : Option Addr) (len cap : Nat) (L : List ByteArray) : Prop := IsStrs w a len cap L ∧ (0 < len → ∀ x, a = some x → F x.block)
theorem StrsIn.on {F : Nat → Prop} {w w' : World} {a : Option Addr} {len cap : Nat} {L : List ByteArray} (h : StrsIn w F a len cap L) (hw : Agree F w w') : StrsIn w' F a len cap L := by
  refine ⟨?_, h.2⟩
  rcases h.1 with h1 | ⟨x, h1, h2, h3, h4, h5⟩
  · exact .inl h1
  · refine .inr ⟨x, h1, h2, h3, h4, fun i s hi => ⟨hw.cell ?_ (h5 i s hi).1, (h5 i s hi).2⟩⟩
    rw [add_block]
    exact h.2 (by have := (List.getElem?_eq_some_iff.1 hi).1; omega) x h1
theorem StrsIn.mono {F G : Nat → Prop} {w : World} {a : Option Addr} {len cap : Nat} {L : List ByteArray} (h : StrsIn w F a len cap L) (hFG : ∀ b, b < w.heap.size → F b → G b) : StrsIn w G a len cap L := by
  refine ⟨h.1, fun h0 x hx => hFG _ ?_ (h.2 h0 x hx)⟩
  have hl := h.1.length
  obtain ⟨y, hy, hc⟩ := h.1.some h0
  obtain rfl := Option.some.inj (hx.symm.trans hy)
  have := block_lt_of_cell (hc 0 (L[0]'(by omega)) (List.getElem?_eq_getElem _)).1
  rwa [add_block] at this
theorem StrsIn.of {w : World} {a : Option Addr} {len cap : Nat} {L : List ByteArray} (h : IsStrs w a len cap L) : StrsIn w (fun b => b < w.heap.size) a len cap L :=
  StrsIn.mono (F := fun _ => True) ⟨h, fun _ _ _ => trivial⟩ (fun _ hb _ => hb)
/-- a list of zones in the blocks of a set -/
def ZonesIn (w : World) (F : Nat → Prop) (a : Option Addr) (len cap : Nat) (Z : List Zone) : Prop :=
  (a = none ∧ len = 0 ∧ cap = 0 ∧ Z = []) ∨
  ∃ x, a = some x ∧ len ≤ cap ∧ cap ≤ maxLen ∧ Z.length = len ∧ x.block < w.heap.size ∧ F x.block ∧ (∀ (i : Nat) z, Z[i]? = some z →
    w.cell? (x.add (i * 3)) = some (.int .i64 z.state) ∧ w.cell? (x.add (i * 3 + 1)) = some (.int .i64 z.durable) ∧
    ∃ sa sl sc, w.cell? (x.add (i * 3 + 2)) = some (.slice sa sl sc) ∧ StrsIn w F sa sl sc z.sectors)
theorem ZonesIn.is {w : World} {F : Nat → Prop} {a : Option Addr} {len cap : Nat} {Z : List Zone} (h : ZonesIn w F a len cap Z) : IsZones w a len cap Z := by
  rcases h with h | ⟨x, h1, h2, h3, h4, h5, _, h7⟩
  · exact .inl h
  · refine .inr ⟨x, h1, h2, h3, h4, h5, fun i z hi => ?_⟩
    obtain ⟨c1, c2, sa, sl, sc, c3, hs⟩ := h7 i z hi
    exact ⟨c1, c2, sa, sl, sc, c3, hs.1⟩
theorem ZonesIn.mono {F G : Nat → Prop} {w : World} {a : Option Addr} {len cap : Nat} {Z : List Zone} (h : ZonesIn w F a len cap Z) (hFG : ∀ b, b < w.heap.size → F b → G b) : ZonesIn w G a len cap Z := by
  rcases h with h | ⟨x, h1, h2, h3, h4, h5, h6, h7⟩
  · exact .inl h
  · refine .inr ⟨x, h1, h2, h3, h4, h5, hFG _ h5 h6, fun i z hi => ?_⟩
    obtain ⟨c1, c2, sa, sl, sc, c3, hs⟩ := h7 i z hi
    exact ⟨c1, c2, sa, sl, sc, c3, hs.mono hFG⟩
theorem ZonesIn.of {w : World} {a : Option Addr} {len cap : Nat} {Z : List Zone} (h : IsZones w a len cap Z) : ZonesIn w (fun b => b < w.heap.size) a len cap Z := by
  rcases h with h | ⟨x, h1, h2, h3, h4, h5, h7⟩
  · exact .inl h
  · refine .inr ⟨x, h1, h2, h3, h4, h5, h5, fun i z hi => ?_⟩
    obtain ⟨c1, c2, sa, sl, sc, c3, hs⟩ := h7 i z hi
    exact ⟨c1, c2, sa, sl, sc, c3, .of hs⟩
theorem ZonesIn.cut {F : Nat → Prop} {w : World} {a : Option Addr} {len cap : Nat} {Z : List Zone} (h : ZonesIn w F a len cap Z) : ZonesIn w (fun b => F b ∧ b < w.heap.size) a len cap Z := h.mono fun _ hb hf => ⟨hf, hb⟩
theorem ZonesIn.on {F : Nat → Prop} {w w' : World} {a : Option Addr} {len cap : Nat} {Z : List Zone} (h : ZonesIn w F a len cap Z) (hw : Agree F w w') : ZonesIn w' F a len cap Z := by
  rcases h with h | ⟨x, h1, h2, h3, h4, h5, h6, h7⟩
  · exact .inl h
  · refine .inr ⟨x, h1, h2, h3, h4, Nat.lt_of_lt_of_le h5 hw.1, h6, fun i z hi => ?_⟩
    obtain ⟨c1, c2, sa, sl, sc, c3, hs⟩ := h7 i z hi
    have hF : ∀ n, F (x.add n).block := fun n => by rw [add_block]; exact h6
    exact ⟨hw.cell (hF _) c1, hw.cell (hF _) c2, sa, sl, sc, hw.cell (hF _) c3, hs.on hw⟩
theorem ZonesIn.zone {w : World} {F : Nat → Prop} {a : Option Addr} {len cap : Nat} {Z : List Zone} (h : ZonesIn w F a len cap Z) (i : Nat) (hi : i < len) : ∃ x z sa sl sc, a = some x ∧ Z[i]? = some z ∧ ZoneAt w x i z sa sl sc ∧ StrsIn w F sa sl sc z.sectors := by
  have hl := h.is.length
  rcases h with ⟨_, rfl, _, _⟩ | ⟨x, h1, _, _, _, _, _, h7⟩
  · omega
  · have hz : Z[i]? = some (Z[i]'(by omega)) := List.getElem?_eq_getElem _
    obtain ⟨c1, c2, sa, sl, sc, c3, hs⟩ := h7 i _ hz
    exact ⟨x, _, sa, sl, sc, h1, hz, ⟨c1, by rw [← add_off x (i * 3) 0]; exact c2, by rw [← add_off x (i * 3) 1]; exact c3⟩, hs⟩
/-- the blocks of a set, and all that are made from now on -/
abbrev Plus (F : Nat → Prop) (n : Nat) : Nat → Prop := fun b => F b ∨ n ≤ b
/-- what a function that returns a device and an error leaves -/
def DevPost (w : World) (F : Nat → Prop) (len : Nat) (D : Dev) (E : Int) (e : Ending) (w' : World) : Prop :=
  ∃ a cap, e = .returned (.tuple #[devV D a len cap, .int .i64 E]) ∧ ZonesIn w' (Plus F w.heap.size) a len cap D.zones ∧ Below w.heap.size w w'
end Go.Proofs.Ythhggiifbldaeaa

/- Lists of zones as cells: copied, changed in one place, read again. -/
namespace Go.Proofs.Ythhggiifbldaeaa
open Go.RowKit Plan ZnsMath

/-- the cells of zones -/
def ZCells (w : World) (F : Nat → Prop) (C : List Value) (Z : List Zone) : Prop :=
  C.length = Z.length * 3 ∧ ∀ (i : Nat) z, Z[i]? = some z → C[i * 3]? = some (.int .i64 z.state) ∧ C[i * 3 + 1]? = some (.int .i64 z.durable) ∧ ∃ sa sl sc, C[i * 3 + 2]? = some (.slice sa sl sc) ∧ StrsIn w F sa sl sc z.sectors
theorem ZCells.on {w w' : World} {F : Nat → Prop} {C : List Value} {Z : List Zone} (h : ZCells w F C Z) (hw : Agree F w w') : ZCells w' F C Z := by
  refine ⟨h.1, fun i z hi => ?_⟩
  obtain ⟨c1, c2, sa, sl, sc, c3, hs⟩ := h.2 i z hi
  exact ⟨c1, c2, sa, sl, sc, c3, hs.on hw⟩
theorem ZCells.mono {w : World} {F G : Nat → Prop} {C : List Value} {Z : List Zone} (h : ZCells w F C Z) (hFG : ∀ b, b < w.heap.size → F b → G b) : ZCells w G C Z := by
  refine ⟨h.1, fun i z hi => ?_⟩
  obtain ⟨c1, c2, sa, sl, sc, c3, hs⟩ := h.2 i z hi
  exact ⟨c1, c2, sa, sl, sc, c3, hs.mono hFG⟩
theorem ZCells.nil (w : World) (F : Nat → Prop) : ZCells w F [] [] := ⟨rfl, fun i z hi => by cases hi⟩
theorem ZCells.snoc {w : World} {F : Nat → Prop} {C : List Value} {Z : List Zone} (h : ZCells w F C Z) (z : Zone) {sa : Option Addr} {sl sc : Nat} (hs : StrsIn w F sa sl sc z.sectors) : ZCells w F (C ++ [.int .i64 z.state, .int .i64 z.durable, .slice sa sl sc]) (Z ++ [z]) := by
  refine ⟨by simp [h.1]; omega, fun i y hi => ?_⟩
  have hl := h.1
  by_cases hlt : i < Z.length
  · rw [List.getElem?_append_left hlt] at hi
    obtain ⟨c1, c2, ta, tl, tc, c3, ht⟩ := h.2 i y hi
    rw [List.getElem?_append_left (by omega), List.getElem?_append_left (by omega), List.getElem?_append_left (by omega)]
    exact ⟨c1, c2, ta, tl, tc, c3, ht⟩
  · have hi2 := (List.getElem?_eq_some_iff.1 hi).1
    simp at hi2
    obtain rfl : i = Z.length := by omega
    have hy : z = y := by simpa using hi
    subst hy
    rw [List.getElem?_append_right (by omega), List.getElem?_append_right (by omega), List.getElem?_append_right (by omega)]
    rw [show Z.length * 3 - C.length = 0 by omega, show Z.length * 3 + 1 - C.length = 1 by omega, show Z.length * 3 + 2 - C.length = 2 by omega]
    exact ⟨rfl, rfl, sa, sl, sc, rfl, hs⟩
/-- the cells of a list of zones that lies in memory -/
theorem ZonesIn.cells {w : World} {F : Nat → Prop} {x : Addr} {len cap : Nat} {Z : List Zone} (h : ZonesIn w F (some x) len cap Z) : ∃ C, ZCells w F C Z ∧ (∀ j u, C[j]? = some u → w.cell? (x.add j) = some u) ∧ ∀ u ∈ C, u.oneCell' = true := by
  have hlen := h.is.length
  have key : ∀ n, n ≤ len → ∃ C, ZCells w F C (Z.take n) ∧ (∀ j u, C[j]? = some u → w.cell? (x.add j) = some u) ∧ ∀ u ∈ C, u.oneCell' = true := by
    intro n
    induction n with
    | zero => intro _; exact ⟨[], ZCells.nil w F, fun j u hu => (by cases hu), fun u hu => (by cases hu)⟩
    | succ n ih =>
      intro hn
      obtain ⟨C, h1, h2, h3⟩ := ih (by omega)
      obtain ⟨x', z, sa, sl, sc, hx, hz, ⟨c1, c2, c3⟩, hs⟩ := h.zone n (by omega)
      obtain rfl := Option.some.inj hx
      rw [← add_off x (n * 3) 0] at c2
      rw [← add_off x (n * 3) 1] at c3
      have hnext : Z.take (n + 1) = Z.take n ++ [z] := by rw [List.take_add_one, hz]; rfl
      have hCl : C.length = n * 3 := by rw [h1.1, List.length_take]; omega
      refine ⟨_, by rw [hnext]; exact h1.snoc z hs, fun j u hu => ?_, fun u hu => ?_⟩
      · by_cases hj : j < C.length
        · rw [List.getElem?_append_left hj] at hu
          exact h2 j u hu
        · rw [List.getElem?_append_right (by omega)] at hu
          have hj2 := (List.getElem?_eq_some_iff.1 hu).1
          simp at hj2
          have hcase : j = n * 3 ∨ j = n * 3 + 1 ∨ j = n * 3 + 2 := by omega
          rcases hcase with rfl | rfl | rfl
          · rw [show n * 3 - C.length = 0 by omega] at hu
            obtain rfl := Option.some.inj hu
            exact c1
          · rw [show n * 3 + 1 - C.length = 1 by omega] at hu
            obtain rfl := Option.some.inj hu
            exact c2
          · rw [show n * 3 + 2 - C.length = 2 by omega] at hu
            obtain rfl := Option.some.inj hu
            exact c3
      · rcases List.mem_append.1 hu with hu | hu
        · exact h3 u hu
        · simp only [List.mem_cons, List.not_mem_nil, or_false] at hu
          rcases hu with rfl | rfl | rfl <;> rfl
  have := key len (Nat.le_refl _)
  rwa [List.take_of_length_le (by omega)] at this
theorem ZCells.set {w : World} {F : Nat → Prop} {C : List Value} {Z : List Zone} (h : ZCells w F C Z) (k : Nat) (hk : k < Z.length) (z : Zone) {sa : Option Addr} {sl sc : Nat} (hs : StrsIn w F sa sl sc z.sectors) :
    ZCells w F (((C.set (k * 3) (.int .i64 z.state)).set (k * 3 + 1) (.int .i64 z.durable)).set (k * 3 + 2) (.slice sa sl sc)) (Z.set k z) := by
  have hl := h.1
  refine ⟨by simp [h.1], fun i y hi => ?_⟩
  by_cases hik : i = k
  · subst hik
    have hy : z = y := by rw [List.getElem?_set_self hk] at hi; exact Option.some.inj hi
    subst hy
    refine ⟨?_, ?_, sa, sl, sc, ?_, hs⟩
    · rw [List.getElem?_set_ne (by omega), List.getElem?_set_ne (by omega), List.getElem?_set_self (by omega)]
    · rw [List.getElem?_set_ne (by omega), List.getElem?_set_self (by simp; omega)]
    · rw [List.getElem?_set_self (by simp; omega)]
  · rw [List.getElem?_set_ne (fun e => hik e.symm)] at hi
    obtain ⟨c1, c2, ta, tl, tc, c3, ht⟩ := h.2 i y hi
    refine ⟨?_, ?_, ta, tl, tc, ?_, ht⟩
    all_goals
      rw [List.getElem?_set_ne (by omega), List.getElem?_set_ne (by omega), List.getElem?_set_ne (by omega)]
      assumption
theorem add_lit0 (g n : Nat) : (⟨g, 0, none⟩ : Addr).add n = ⟨g, n, none⟩ := by rw [Addr.add_lit, Nat.zero_add]
/-- a list of zones that the call owns is one that is read -/
theorem owns_zones {w : World} {F : Nat → Prop} {B : Nat} {v : Value} {n : Nat} {C : List Value} {Z : List Zone} (h : w.ownsRow B 69 3 v n C) (hz : ZCells w F C Z) (hF : ∀ b, v.ownBlock = some b → F b) : Z.length = n ∧ ∃ a cap, v = .slice a n cap ∧ ZonesIn w F a n cap Z := by
  have hl : Z.length = n := by have h1 := h.1; have h2 := hz.1; omega
  refine ⟨hl, ?_⟩
  rcases h.2 with ⟨rfl, rfl⟩ | ⟨g, cap, cur, rfl, hb, hg, h1, h2, h3, h4⟩
  · obtain rfl : Z = [] := List.length_eq_zero_iff.1 hl
    exact ⟨none, 0, rfl, .inl ⟨rfl, rfl, rfl, rfl⟩⟩
  · refine ⟨_, _, rfl, .inr ⟨_, rfl, h1, h2, hl, (Array.getElem?_eq_some_iff.1 hg).1, hF g rfl, fun i z hi => ?_⟩⟩
    obtain ⟨c1, c2, sa, sl, sc, c3, hs⟩ := hz.2 i z hi
    have hc := fun j u hu => h.cells (g := g) rfl j u hu
    exact ⟨hc _ _ c1, hc _ _ c2, sa, sl, sc, hc _ _ c3, hs⟩
theorem owns_cell {w : World} {B sz g n cap : Nat} {t : TypeId} {C : List Value} (h : w.ownsRow B t sz (.slice (some ⟨g, 0, none⟩) n cap) n C) (j : Nat) (u : Value) :
    (w.setCell ⟨g, j, none⟩ u).ownsRow B t sz (.slice (some ⟨g, 0, none⟩) n cap) n (C.set j u) := by
  obtain ⟨h1, h2⟩ := h
  rcases h2 with ⟨h, _⟩ | ⟨g', cap', cur, hv, hb, hg, k1, k2, k3, k4⟩
  · cases h
  · cases hv
    refine ⟨by rw [List.length_set]; exact h1, .inr ⟨g, cap, cur.setIfInBounds j u, rfl, hb, setCell_row hg j _, k1, k2, by simpa using k3, ?_⟩⟩
    rw [Array.toList_setIfInBounds, List.take_set, k4]
theorem zone_info6 : (Try.prog.info? 69).map (fun i => (i.zero, i.size, i.bytes)) = some (some (.agg #[.int .i64 0, .int .i64 0, .slice none 0 0]), 3, 40) := by kernel_rfl
theorem row3 {w : World} {g : Nat} {a b c : Value} {t : TypeId} {fr : Nat × Nat} (h : w.heap[g]? = some (.cells #[a, b, c] t fr)) :
    g < w.heap.size ∧ w.cell? ⟨g, 0, none⟩ = some a ∧ w.cell? ⟨g, 1, none⟩ = some b ∧ w.cell? ⟨g, 2, none⟩ = some c :=
  ⟨(Array.getElem?_eq_some_iff.1 h).1, cell_of_row _ _ 0 _ _ _ h, cell_of_row _ _ 1 _ _ _ h, cell_of_row _ _ 2 _ _ _ h⟩
end Go.Proofs.Ythhggiifbldaeaa

/- Two lemmas of the walks of the maker's Command and Odd: a list of no zones that the call owns; a list set to what it holds. -/
namespace Go.Proofs.Ythhggiifbldaeaa
open Go.RowKit Plan ZnsMath
theorem zones_empty1 (w : World) {H : Nat} (hH : w.heap.size = H) : (w.alloc (.cells #[] 69)).ownsRow H 69 3 (.slice (some ⟨H, 0, none⟩) 0 0) 0 [] := by
  subst hH
  exact World.ownsRow_made (base := w.heap.size) (e := 69) (size := 3) w #[] 0 (Nat.le_refl _) (by unfold maxLen; decide) rfl
theorem set_same {C : List Value} {i : Nat} {u : Value} (h : C[i]? = some u) : C.set i u = C := by
  obtain ⟨hi, e⟩ := List.getElem?_eq_some_iff.1 h
  subst e
  exact List.set_getElem_self hi
end Go.Proofs.Ythhggiifbldaeaa

/- The walks of the document's own begin, shut and with. -/
namespace Go.Proofs.Ythhggiifbldaeaa
open Go.RowKit Plan ZnsMath

abbrev devRow (size op act : Int) (a : Option Addr) (len cap : Nat) : Obj := .cells #[.int .i64 size, .int .i64 op, .int .i64 act, .slice a len cap] 29
abbrev zoneRow (st du : Int) (a : Option Addr) (len cap : Nat) : Obj := .cells #[.int .i64 st, .int .i64 du, .slice a len cap] 69
theorem zoneE_of {D : Dev} {k : Int} (h : zoneE D k = 0) : checkE D = 0 ∧ ¬ k < 0 ∧ ¬ (D.zones.length : Int) ≤ k := by
  unfold zoneE at h
  split at h
  · rename_i h1; exact absurd h h1
  · rename_i h1
    split at h
    · cases h
    · exact ⟨by omega, by omega, by omega⟩
theorem zones_empty (w : World) (a b c : Obj) : ((((w.alloc a).alloc b).alloc c).alloc (.cells #[] 69)).ownsRow (w.heap.size + 1 + 1 + 1) 69 3 (.slice (some ⟨w.heap.size + 1 + 1 + 1, 0, none⟩) 0 0) 0 [] := by
  have := World.ownsRow_made (base := w.heap.size + 1 + 1 + 1) (e := 69) (size := 3) (((w.alloc a).alloc b).alloc c) #[] 0 (by simp) (by unfold maxLen; decide) rfl
  rwa [World.size_alloc, World.size_alloc, World.size_alloc] at this
theorem heap_third (w : World) (a b c : Obj) : (((w.alloc a).alloc b).alloc c).heap[w.heap.size + 1 + 1]? = some c := by
  have := heap_alloc_new ((w.alloc a).alloc b) c
  rwa [World.size_alloc, World.size_alloc] at this
theorem owns_copy {w : World} {B sz g n cap : Nat} {t : TypeId} {xs : List Value} (h : w.ownsRow B t sz (.slice (some ⟨g, 0, none⟩) (0 + n) cap) (0 + n) ([] ++ xs)) : w.ownsRow B t sz (.slice (some ⟨g, 0, none⟩) n cap) n xs := by
  rw [Nat.zero_add, List.nil_append] at h
  exact h
theorem with_facts {W3 w7 : World} {H g7 n c7 : Nat} {o0 o1 o2 : Obj} {C : List Value} (r0 : W3.heap[H]? = some o0) (r1 : W3.heap[H + 1]? = some o1) (r2 : W3.heap[H + 1 + 1]? = some o2) (hg : W3.grownBy w7 (Value.slice (some ⟨H + 1 + 1 + 1, 0, none⟩) 0 0).ownBlock)
    (ho : w7.ownsRow (H + 1 + 1 + 1) 69 3 (.slice (some ⟨g7, 0, none⟩) n c7) n C) : w7.heap[H]? = some o0 ∧ w7.heap[H + 1]? = some o1 ∧ w7.heap[H + 1 + 1]? = some o2 ∧ H + 1 + 1 + 1 ≤ g7 := by
  have hg : W3.grownBy w7 (some (H + 1 + 1 + 1)) := hg
  exact ⟨(hg.block H (lt_of_block r0) (fun e => by have := Option.some.inj e; omega)).trans r0, (hg.block _ (lt_of_block r1) (fun e => by have := Option.some.inj e; omega)).trans r1, (hg.block _ (lt_of_block r2) (fun e => by have := Option.some.inj e; omega)).trans r2, (ho.lt g7 rfl).1⟩
theorem owns_free5 {w : World} {B sz g n cap : Nat} {t : TypeId} {xs : List Value} (h : w.ownsRow B t sz (.slice (some ⟨g, 0, none⟩) n cap) n xs) (q : Nat) : w.frozen? ⟨g, q, none⟩ = false := by
  rcases h.2 with ⟨h, _⟩ | ⟨g', cap', cur, hv, hb, hg, _⟩
  · cases h
  · cases hv
    exact row_free hg q
theorem three_cells {w W : World} {B g n cap : Nat} {F : Nat → Prop} {C : List Value} {Z : List Zone} (h : w.ownsRow B 69 3 (.slice (some ⟨g, 0, none⟩) n cap) n C) (hz : ZCells W F C Z) {k : Nat} (hk : k < Z.length) :
    ∃ u0 u1 u2, w.cell? ⟨g, k * 3, none⟩ = some u0 ∧ w.cell? ⟨g, k * 3 + 1, none⟩ = some u1 ∧ w.cell? ⟨g, k * 3 + 2, none⟩ = some u2 := by
  obtain ⟨c1, c2, sa, sl, sc, c3, -⟩ := hz.2 k Z[k] (List.getElem?_eq_getElem hk)
  have hc := fun j u hu => h.cells (g := g) rfl j u hu
  have e1 := hc _ _ c1
  have e2 := hc _ _ c2
  have e3 := hc _ _ c3
  rw [add_lit0] at e1 e2 e3
  exact ⟨_, _, _, e1, e2, e3⟩
/-- the store of a zone into a list -/
theorem store_zone {P : Program} {ops : Array Oper} {rest : List Oper} {a : Act} {w : World} {Q : Exit → Act → World → Prop} (ty : TypeId) (x y : Operand) {t' : TypeId} {pos : String} {after : Array Edge}
    (g o : Nat) (v0 v1 v2 : Value) (hx : a.eval x = .pointer (some ⟨g, o, none⟩)) (hy : a.eval y = .agg #[v0, v1, v2]) (ht : w.there g o 3) (hi : (P.info? ty).map (·.size) = some 3)
    (h1 : (#[v0, v1, v2] : Array Value).all (·.oneCell') = true) (h : ∀ w', w' = w.setCells g o [v0, v1, v2] → wpList P ops Q rest (a.put none undef) w') : wpList P ops Q (⟨none, .store ty x y, t', pos, after, none⟩ :: rest) a w :=
  wpList_store_mid rfl ty x y rfl g o #[v0, v1, v2] hx hy ht hi h1 (h _ rfl)
/-- .. at an index of it -/
theorem idx_store_zone {P : Program} {ops : Array Oper} {rest : List Oper} {a : Act} {w : World} {Q : Exit → Act → World → Prop} (tt ty : TypeId) (d : Tmp) (s i y : Operand) {t1 t' : TypeId} {pos1 pos : String} {after1 after : Array Edge}
    (g o : Nat) (v0 v1 v2 : Value) (hv : (execOp a.eval ⟨some d, .indexAddr tt s i, t1, pos1, after1, none⟩).run P w = .ok (.value (.pointer (some ⟨g, o, none⟩))) w)
    (hx : (a.put (some d) (.pointer (some ⟨g, o, none⟩))).eval (.tmp d) = .pointer (some ⟨g, o, none⟩)) (hy : (a.put (some d) (.pointer (some ⟨g, o, none⟩))).eval y = .agg #[v0, v1, v2]) (ht : w.there g o 3) (hi : (P.info? ty).map (·.size) = some 3)
    (h1 : (#[v0, v1, v2] : Array Value).all (·.oneCell') = true) (h : ∀ w', w' = w.setCells g o [v0, v1, v2] → wpList P ops Q rest ((a.put (some d) (.pointer (some ⟨g, o, none⟩))).put none undef) w') :
    wpList P ops Q (⟨some d, .indexAddr tt s i, t1, pos1, after1, none⟩ :: ⟨none, .store ty (.tmp d) y, t', pos, after, none⟩ :: rest) a w :=
  wpList_plain rfl fun _ hK => by
    unfold Oper.wp
    rw [hv]
    exact hK _ _ (store_zone ty (.tmp d) y g o v0 v1 v2 hx hy ht hi h1 h)
theorem run_store_zone (w : World) (g o : Nat) (v0 v1 v2 : Value) (ht : w.there g o 3) (h1 : (#[v0, v1, v2] : Array Value).all (·.oneCell') = true) :
    (storeVar 69 ⟨g, o, none⟩ (.agg #[v0, v1, v2])).run Try.prog w = .ok () (w.setCells g o [v0, v1, v2]) := run_storeVar_mid w g o 69 #[v0, v1, v2] ht zone_info h1
theorem run_store_at (w : World) (g o : Nat) (v0 v1 v2 : Value) (ht : w.there g o 3) (h1 : (#[v0, v1, v2] : Array Value).all (·.oneCell') = true) :
    (Instr.storeAt 69 (.pointer (some ⟨g, o, none⟩)) (.agg #[v0, v1, v2])).run Try.prog w = .ok () (w.setCells g o [v0, v1, v2]) := run_storeAt_mid w g o 69 #[v0, v1, v2] ht zone_info h1
theorem with_there {w7 : World} {B H g7 n c7 k : Nat} {F : Nat → Prop} {C : List Value} {Z : List Zone} {W : World} {u : Value} (ho : w7.ownsRow B 69 3 (.slice (some ⟨g7, 0, none⟩) n c7) n C) (hz : ZCells W F C Z) (hk : k < Z.length) (hne : H ≠ g7) :
    (w7.setCell ⟨H, 3, none⟩ u).there g7 (k * 3) 3 := by
  have o8 := ownsRow_setCell_other ho (a := ⟨H, 3, none⟩) (fun e => hne (Option.some.inj (show some g7 = some H from e)).symm) u
  obtain ⟨u0, u1, u2, p0, p1, p2⟩ := three_cells o8 hz hk
  intro j hj
  have hf := owns_free5 o8 (k * 3 + j)
  have : j = 0 ∨ j = 1 ∨ j = 2 := by omega
  rcases this with rfl | rfl | rfl
  · exact ⟨by rw [Nat.add_zero, p0]; rfl, hf⟩
  · exact ⟨by rw [p1]; rfl, hf⟩
  · exact ⟨by rw [p2]; rfl, hf⟩
theorem owns_other {w : World} {B sz g n cap H : Nat} {t : TypeId} {xs : List Value} {cs : Array Value} (h : w.ownsRow B t sz (.slice (some ⟨g, 0, none⟩) n cap) n xs) (hne : g ≠ H) : (w.setRow H cs).ownsRow B t sz (.slice (some ⟨g, 0, none⟩) n cap) n xs := by
  obtain ⟨h1, h2⟩ := h
  rcases h2 with ⟨h, _⟩ | ⟨g', cap', cur, hv, hb, hg, r⟩
  · cases h
  · cases hv
    exact ⟨h1, .inr ⟨g, cap, cur, rfl, hb, (setRow_other _ _ _ _ hne).trans hg, r⟩⟩
theorem with_end {w w7 W3 : World} {F : Nat → Prop} {g7 len c7 k : Nat} {size op act : Int} {x : Addr} {cap : Nat} {C : List Value} {Z : List Zone} {st du : Int} {L : List ByteArray} {sa : Option Addr} {sl sc : Nat} {o2 : Obj}
    (q0 : w7.heap[w.heap.size]? = some (devRow size op act (some x) len cap)) (q2 : w7.heap[w.heap.size + 1 + 1]? = some o2) (q3 : w.heap.size + 1 + 1 + 1 ≤ g7)
    (ho : w7.ownsRow (w.heap.size + 1 + 1 + 1) 69 3 (.slice (some ⟨g7, 0, none⟩) len c7) len C) (hz : ZCells w F C Z) (hk : k < Z.length) (hb : Below w.heap.size w W3) (hg : W3.grownBy w7 (Value.slice (some ⟨w.heap.size + 1 + 1 + 1, 0, none⟩) 0 0).ownBlock)
    (hW : w.heap.size + 1 + 1 + 1 < W3.heap.size) (hs : StrsIn w F sa sl sc L) (w9 : World)
    (e : w9 = (w7.setCell ⟨w.heap.size, 3, none⟩ (.slice (some ⟨g7, 0, none⟩) len c7)).setCells g7 (k * 3) [.int .i64 st, .int .i64 du, .slice sa sl sc]) :
    w9.heap[w.heap.size]? = some (devRow size op act (some ⟨g7, 0, none⟩) len c7) ∧ w9.heap[w.heap.size + 1 + 1]? = some o2 ∧ ∀ cs, ZonesIn (w9.setRow (w.heap.size + 1 + 1) cs) (Plus F w.heap.size) (some ⟨g7, 0, none⟩) len c7 (Z.set k ⟨st, du, L⟩) ∧ Below w.heap.size w (w9.setRow (w.heap.size + 1 + 1) cs) := by
  have hg : W3.grownBy w7 (some (w.heap.size + 1 + 1 + 1)) := hg
  have b7 := hb.grown hg (by omega) (fun k hk => by have := Option.some.inj hk; omega)
  have x8 := setCell_row q0 3 (.slice (some ⟨g7, 0, none⟩) len c7)
  have y8 := (Below.heap_setCell w7 ⟨w.heap.size, 3, none⟩ (.slice (some ⟨g7, 0, none⟩) len c7) (w.heap.size + 1 + 1) (show w.heap.size + 1 + 1 ≠ w.heap.size by omega)).trans q2
  have o8 := ownsRow_setCell_other ho (a := ⟨w.heap.size, 3, none⟩) (fun e => by have := Option.some.inj (show some g7 = some w.heap.size from e); omega) (.slice (some ⟨g7, 0, none⟩) len c7)
  have b8 := b7.setCell (show w.heap.size ≤ (⟨w.heap.size, 3, none⟩ : Addr).block from Nat.le_refl _) (.slice (some ⟨g7, 0, none⟩) len c7)
  generalize w7.setCell ⟨w.heap.size, 3, none⟩ (.slice (some ⟨g7, 0, none⟩) len c7) = w8 at x8 y8 o8 b8 e
  have e : w9 = ((w8.setCell ⟨g7, k * 3, none⟩ (.int .i64 st)).setCell ⟨g7, k * 3 + 1, none⟩ (.int .i64 du)).setCell ⟨g7, k * 3 + 1 + 1, none⟩ (.slice sa sl sc) := e
  subst e
  have o9 := owns_cell (owns_cell (owns_cell o8 (k * 3) (.int .i64 st)) (k * 3 + 1) (.int .i64 du)) (k * 3 + 1 + 1) (.slice sa sl sc)
  have b9 := ((b8.setCell (show w.heap.size ≤ (⟨g7, k * 3, none⟩ : Addr).block by show w.heap.size ≤ g7; omega) (.int .i64 st)).setCell (show w.heap.size ≤ (⟨g7, k * 3 + 1, none⟩ : Addr).block by show w.heap.size ≤ g7; omega) (.int .i64 du)).setCell (show w.heap.size ≤ (⟨g7, k * 3 + 1 + 1, none⟩ : Addr).block by show w.heap.size ≤ g7; omega) (.slice sa sl sc)
  have hfar : ∀ j, j ≠ g7 → (((w8.setCell ⟨g7, k * 3, none⟩ (.int .i64 st)).setCell ⟨g7, k * 3 + 1, none⟩ (.int .i64 du)).setCell ⟨g7, k * 3 + 1 + 1, none⟩ (.slice sa sl sc)).heap[j]? = w8.heap[j]? := fun j hj =>
    (Below.heap_setCell _ _ _ j hj).trans ((Below.heap_setCell _ _ _ j hj).trans (Below.heap_setCell _ _ _ j hj))
  refine ⟨(hfar _ (by omega)).trans x8, (hfar _ (by omega)).trans y8, fun cs => ?_⟩
  have b10 := below_setRow b9 (show w.heap.size ≤ w.heap.size + 1 + 1 by omega) cs
  refine ⟨?_, b10⟩
  have o10 := owns_other (H := w.heap.size + 1 + 1) (cs := cs) o9 (by omega)
  obtain ⟨-, a', cap', heq, h⟩ := owns_zones (F := Plus F w.heap.size) o10 (((hz.set k hk ⟨st, du, L⟩ hs).on (Agree.below b10)).mono (fun _ _ hb => .inl hb)) (fun b e => .inr (by have := Option.some.inj (show some g7 = some b from e); omega))
  cases heq
  exact h
end Go.Proofs.Ythhggiifbldaeaa

/- The walk of the document's own with. -/
namespace Go.Proofs.Ythhggiifbldaeaa
open Go.RowKit Plan ZnsMath

end Go.Proofs.Ythhggiifbldaeaa

/- The walks of the document's own Reset, Finish, Close. -/
namespace Go.Proofs.Ythhggiifbldaeaa
open Go.RowKit Plan ZnsMath

theorem plus_not {F : Nat → Prop} {n m r : Nat} (hF : ∀ b, F b → b < n) (h1 : n ≤ r) (h2 : r < m) : ¬ Plus F m r := by
  rintro (h | h)
  · have := hF r h; omega
  · omega
theorem begin_range {D : Dev} {k : Int} (h : beginE D k = 0) : ∃ i : Nat, k = (i : Int) ∧ i < D.zones.length ∧ checkE D = 0 ∧ stateAt D k ≠ 5 := by
  unfold beginE at h
  split at h
  · rename_i h1; exact absurd h h1
  · rename_i h1
    have h2 : zoneE D k = 0 := by omega
    have h3 := zoneE_of h2
    split at h
    · cases h
    · rename_i h4
      exact ⟨k.toNat, by omega, by omega, h3.1, h4⟩
theorem resetR_no {D : Dev} {k : Int} (h : beginE D k ≠ 0) : resetR D k = D := by unfold resetR; rw [if_neg h]
theorem resetR_yes {D : Dev} {i : Nat} (h : beginE D (i : Int) = 0) : resetR D (i : Int) = withZ D i empty := by unfold resetR; rw [if_pos h, Int.toNat_natCast]
theorem empty_in (w : World) (F : Nat → Prop) : StrsIn w F none 0 0 empty.sectors := ⟨.inl ⟨rfl, rfl, rfl, rfl⟩, fun h => by omega⟩
end Go.Proofs.Ythhggiifbldaeaa
