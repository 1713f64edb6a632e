
/- The walks of the library's Clone at entries and of the program's with. -/
import Derived.Test.YtbaclgedohpibaaShPSeek
import Derived.Deep.MidRow
import Derived.Lib.SliceRun
namespace Go.Proofs.Ytbaclgedohpibaa.Ents
open Go.RowKit Plan EntMath
theorem own_some {w : World} {B n : Nat} {v : Value} {xs : List Value} (h : w.ownsRow B 26 6 v n xs) (hn : 0 < n) : ∃ g c, v = .slice (some ⟨g, 0, none⟩) n c ∧ B ≤ g ∧ g < w.heap.size := by
  rcases h.2 with ⟨_, h0⟩ | ⟨g, cap, cur, rfl, hb, hg, _⟩
  · omega
  · exact ⟨g, cap, rfl, hb, (Array.getElem?_eq_some_iff.1 hg).1⟩
/-- a list of the call's own, with its block -/
def OwnPost (w : World) (B : Nat) (L : List Ent) (r : Ending) (w' : World) : Prop :=
  ∃ g c, r = .returned (.slice (some ⟨g, 0, none⟩) L.length c) ∧ B ≤ g ∧ w'.ownsRow B 26 6 (.slice (some ⟨g, 0, none⟩) L.length c) L.length (ents L) ∧ Below B w w'
set_option maxHeartbeats 1000000 in
theorem clone_any (F : Nat → Prop) (L : List Ent) (x : Addr) (len cap : Nat) (w : World) (hl : EList w F (some x) len cap L) (hn : 0 < len) (hm : len ≤ 900000) :
    Calls Try.prog 38 #[.slice (some x) len cap] w (OwnPost w w.heap.size L) := by
  have hlen := hl.length
  have hA := (Below.refl w.heap.size w).alloc (Nat.le_refl _) (.cells #[] 26)
  have HL := Lib.hid (hl.low.on (Same.low hA))
  unfold OwnPost
  rw [hlen]
  clear hl
  have q22 : ∀ (w : World) (a : Option Addr) (n c n' c' : Nat), (binOp .eql 22 (.slice a n c) (.slice none n' c')).run Try.prog w = .ok (.bool a.isNone) w := fun w a n c n' c' => Lib.run_eql_slice_nil w _ _ a n c n' c' Try.underlying22
  go_enter Try.func38, Try.ntmps38
  go_wp2_with (first
    | (at_builtin; refine append_ents (F := fun b => b < w.heap.size) rfl (.tmp 5) (.tmp 6) rfl w.heap.size (.slice (some ⟨w.heap.size, 0, none⟩) 0 0) 0 [] rfl (ents_empty w rfl) (some x) len cap L rfl HL.out (by omega) (by simp) ?_; intro v7 w7 hown7 hgrow7; rw [Nat.zero_add, List.nil_append] at hown7; obtain ⟨g7, c7, rfl, hg7, hs7⟩ := own_some hown7 hn; have b7 := hA.grown hgrow7 hA.size (fun z9 h9 => by have h8 := Option.some.inj (show some w.heap.size = some z9 from h9); omega)))
  go_ret
  exact ⟨g7, c7, rfl, hg7, hown7, b7⟩
theorem ents_set {L : List Ent} {k : Nat} (h : k < L.length) (e : Ent) : ents (L.set k e) = ((((((ents L).set (k * 6) (.int .i64 e.block)).set (k * 6 + 1) (.int .i64 e.kind)).set (k * 6 + 2) (.int .i64 e.version)).set (k * 6 + 3) (.int .i64 e.move)).set (k * 6 + 4) (.int .i64 e.zone)).set (k * 6 + 5) (.int .i64 e.offset) := by
  induction L generalizing k with
  | nil => cases h
  | cons x L ih =>
    cases k with
    | zero => simp [ents_cons, entC]
    | succ k =>
      have hs : ∀ (M : List Value) j u, (entC x ++ M).set (j + 6) u = entC x ++ M.set j u := fun M j u => by simp [entC]
      rw [List.set_cons_succ, ents_cons, ents_cons, ih (Nat.lt_of_succ_lt_succ h)]
      rw [show (k + 1) * 6 = k * 6 + 6 by omega, hs, show k * 6 + 6 + 1 = (k * 6 + 1) + 6 by omega, hs, show k * 6 + 6 + 2 = (k * 6 + 2) + 6 by omega, hs, show k * 6 + 6 + 3 = (k * 6 + 3) + 6 by omega, hs, show k * 6 + 6 + 4 = (k * 6 + 4) + 6 by omega, hs, show k * 6 + 6 + 5 = (k * 6 + 5) + 6 by omega, hs]
/-- the store of an entry into a list of the call's own -/
theorem own_set {w : World} {B g n c k : Nat} {L : List Ent} (h : w.ownsRow B 26 6 (.slice (some ⟨g, 0, none⟩) n c) n (ents L)) (hl : L.length = n) (hk : k < n) (e : Ent) :
    (w.setCells g (k * 6) (entC e)).ownsRow B 26 6 (.slice (some ⟨g, 0, none⟩) n c) n (ents (L.set k e)) := by
  rw [ents_set (by omega)]
  exact e_owns_cell (e_owns_cell (e_owns_cell (e_owns_cell (e_owns_cell (e_owns_cell h _ _) _ _) _ _) _ _) _ _) _ _
theorem own_there {w : World} {B g n c k : Nat} {L : List Ent} (h : w.ownsRow B 26 6 (.slice (some ⟨g, 0, none⟩) n c) n (ents L)) (hl : L.length = n) (hk : k < n) : w.there g (k * 6) 6 := by
  have hC : (ents L).length = n * 6 := by rw [ents_length, hl]
  intro j hj
  obtain ⟨⟨u, hu⟩, hf⟩ := e_owns_one h (j := k * 6 + j) (by omega)
  exact ⟨by rw [hu]; rfl, hf⟩
theorem below_setCells {B g o : Nat} {w0 w : World} (h : Below B w0 w) (hg : B ≤ g) (e : Ent) : Below B w0 (w.setCells g o (entC e)) :=
  (((((h.setCell hg _).setCell hg _).setCell hg _).setCell hg _).setCell hg _).setCell hg _
/-- the index of a list and the store of an entry there -/
theorem idx_store_ent {P : Program} {ops : Array Oper} {rest : List Oper} {a : Act} {w : World} {Q : Exit → Act → World → Prop} (tt ty : TypeId) (d : Tmp) (s i y : Operand) {t1 t' : TypeId} {pos1 pos : String} {after1 after : Array Edge}
    (g o : Nat) (e : Ent) (hv : (execOp a.eval ⟨some d, .indexAddr tt s i, t1, pos1, after1, none⟩).run P w = .ok (.value (.pointer (some ⟨g, o, none⟩))) w)
    (hx : (a.put (some d) (.pointer (some ⟨g, o, none⟩))).eval (.tmp d) = .pointer (some ⟨g, o, none⟩)) (hy : (a.put (some d) (.pointer (some ⟨g, o, none⟩))).eval y = entV e) (ht : w.there g o 6) (hi : (P.info? ty).map (·.size) = some 6)
    (h : ∀ w', w' = w.setCells g o (entC e) → wpList P ops Q rest ((a.put (some d) (.pointer (some ⟨g, o, none⟩))).put none undef) w') :
    wpList P ops Q (⟨some d, .indexAddr tt s i, t1, pos1, after1, none⟩ :: ⟨none, .store ty (.tmp d) y, t', pos, after, none⟩ :: rest) a w :=
  wpList_plain rfl fun _ hK => by
    unfold Oper.wp
    rw [hv]
    exact hK _ _ (wpList_store_mid rfl ty (.tmp d) y rfl g o (entC e).toArray hx hy ht hi (by simp [entC, Value.oneCell']) (h _ rfl))
/-- what a function that gives a list leaves -/
def ListPost (w : World) (F : Nat → Prop) (L : List Ent) (r : Ending) (w' : World) : Prop :=
  ∃ a n c, r = .returned (.slice a n c) ∧ EList w' (Plus F w.heap.size) a n c L ∧ Below w.heap.size w w'
set_option maxHeartbeats 1000000 in
set_option maxRecDepth 20000 in
theorem with_any (F : Nat → Prop) (L : List Ent) (e : Ent) (x : Addr) (len cap k : Nat) (w : World) (hl : EList w F (some x) len cap L) (hk : k < len) (hm : len ≤ 900000) :
    Calls Try.prog 33 #[.slice (some x) len cap, .int .i64 k, entV e] w (ListPost w F (L.set k e)) := by
  have hlen := hl.length
  have hA := (Below.refl w.heap.size w).alloc (Nat.le_refl _) (entRow e.block e.kind e.version e.move e.zone e.offset)
  have hx0 := heap_alloc_new w (entRow e.block e.kind e.version e.move e.zone e.offset)
  have HC := Lib.hid (clone_any _ L x len cap _ (hl.low.on (Same.low hA)) (by omega) hm)
  unfold OwnPost at HC
  rw [hlen] at HC
  unfold ListPost
  clear hl
  have hkI : (k : Int) < (len : Int) := by omega
  obtain ⟨eb, ek, ev, em, ez, eo⟩ := e
  try simp only at HC hA hx0
  go_enter Try.func33, Try.ntmps33
  generalize hw0 : w.alloc (entRow eb ek ev em ez eo) = w0 at *
  go_wp2_with (first
    | (go_at_call 38; ((with_reducible refine HC.out.mono ?_); rintro e9 w1 ⟨g1, c1, rfl, hg1, hown1, h1⟩; have b1 := hA.trans (h1.mono hA.size); have hx1 := e_on h1 hx0 (e_lt hx0); have T1 := own_there hown1 hlen hk; have O1 := Lib.hid (own_set hown1 hlen hk ⟨eb, ek, ev, em, ez, eo⟩); have hsz0 := hA.size; obtain ⟨d0, d1, d2, d3, d4, d5⟩ := entry_row hx1))
    | ((with_reducible refine idx_store_ent 22 26 13 (.tmp 10) (.tmp 11) (.tmp 12) g1 (k * 6) ⟨eb, ek, ev, em, ez, eo⟩ ?_ ?_ ?_ T1 ?_ ?_); (· go_simp); (· rfl); (· rfl); (· exact entry_info); intro w9 e9; have O9 := O1.out; rw [← e9] at O9; have b9 := below_setCells (o := k * 6) b1 (show w.heap.size ≤ g1 by omega) ⟨eb, ek, ev, em, ez, eo⟩; rw [← e9] at b9; clear e9; simp only [Act.put, List.setIfInBounds_toArray, List.set_cons_zero, List.set_cons_succ]))
  go_ret
  obtain ⟨-, a7, c7, h7, hl7⟩ := owns_ents (F := Plus F w.heap.size) O9 (fun b h9 => .inr (by have h8 := Option.some.inj (show some g1 = some b from h9); omega))
  exact ⟨_, _, _, by rw [← h7]; rfl, hl7, b9⟩
end Go.Proofs.Ytbaclgedohpibaa.Ents
