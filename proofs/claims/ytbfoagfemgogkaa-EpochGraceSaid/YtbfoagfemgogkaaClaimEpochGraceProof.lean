/- EpochGrace: a zone that was retired while a slot was pinned is not ready as long as this slot stays pinned, whatever else happens, and the epoch never falls. No condition. -/
import Derived.Test.YtbfoagfemgogkaaPack20
import Derived.Test.YtbfoagfemgogkaaRows
import Derived.WalkKit
import Derived.ProofKit
import Derived.SliceStrings
import Derived.OpenShut
import Derived.ShutString
import Derived.ChangeOld
import Derived.Carry
import Derived.Below

/- The walks of the law's awake and of EpochRaw, under the program's contracts. -/
namespace Go.Proofs.Ytbfoagfemgogkaa.Ents
open Go.RowKit Plan EntMath CntMath EpoMath Rws
/-- a box of epochs of the walk's own -/
structure EBox (w W : World) (X : Nat) (g : Int) (a b : Option Addr) (n c m d : Nat) (E : Epo) : Prop where
  hX : W.heap[X]? = some (epoRow g a n c b m d)
  ll : PList W (fun b => b ≠ X) g a n c b m d E
  hb : Below w.heap.size w W
  hh : w.heap.size ≤ X
section
variable {w W W' : World} {X : Nat} {g g' : Int} {a b a' b' : Option Addr} {n c m d n' c' m' d' : Nat} {E E' : Epo}
theorem EBox.on (K : EBox w W X g a b n c m d E) (h : Below W.heap.size W W') : EBox w W' X g a b n c m d E := ⟨e_on h K.hX (e_lt K.hX), K.ll.on (Same.below h), K.hb.trans (h.mono K.hb.size), K.hh⟩
theorem EBox.drew (K : EBox w W X g a b n c m d E) : EBox w W.drew X g a b n c m d E := K.on (Below.refl _ _).drew
theorem EBox.al (K : EBox w W X g a b n c m d E) (p : Obj) : EBox w (W.alloc p) X g a b n c m d E := K.on ((Below.refl _ _).alloc (Nat.le_refl _) p)
theorem EBox.put (K : EBox w W X g a b n c m d E) (l : PList W (fun b => b ≠ X) g' a' n' c' b' m' d' E') : EBox w (W.setRow X #[.int .i64 g', .slice a' n' c', .slice b' m' d']) X g' a' b' n' c' m' d' E' :=
  ⟨setRow_heap _ _ _ _ _ _ K.hX, l.on (Same.row (fun h => h rfl) _), below_setRow K.hb K.hh _, K.hh⟩
theorem EBox.res (K : EBox w W X g a b n c m d E) (l : PList W' (Plus (fun b => b ≠ X ∧ b < W.heap.size) W.heap.size) g' a' n' c' b' m' d' E') : PList W' (fun b => b ≠ X) g' a' n' c' b' m' d' E' :=
  l.mono fun b _ h => by
    have h1 := e_lt K.hX
    rcases h with h | h
    · exact h.1
    · omega
theorem EBox.rows (K : EBox w W X g a b n c m d E) : W.cell? ⟨X, 0, none⟩ = some (.int .i64 g) ∧ W.cell? ⟨X, 1, none⟩ = some (.slice a n c) ∧ W.cell? ⟨X, 2, none⟩ = some (.slice b m d) := three_row K.hX
theorem EBox.start (hb : Below w.heap.size w W) (l : PList W (fun b => w.heap.size ≤ b) g a n c b m d E) : EBox w (W.alloc (epoRow g a n c b m d)) W.heap.size g a b n c m d E :=
  ⟨heap_alloc_new _ _, (l.cut.on (Same.alloc _ _)).mono fun b _ h => by have := h.2; omega, hb.alloc hb.size _, hb.size⟩
end
theorem aw_epo : newE 2 = ⟨0, [-1, -1], []⟩ ∧ newEE 2 = 0 ∧ pinE ⟨0, [-1, -1], []⟩ 0 = ⟨0, [0, -1], []⟩ ∧ pinB ⟨0, [-1, -1], []⟩ 0 = true ∧ retireE ⟨0, [0, -1], []⟩ 9 = ⟨0, [0, -1], [⟨9, 0⟩]⟩ ∧ retireB ⟨0, [0, -1], []⟩ 9 = true ∧
    advE ⟨0, [0, -1], [⟨9, 0⟩]⟩ = ⟨1, [0, -1], [⟨9, 0⟩]⟩ ∧ advB ⟨0, [0, -1], [⟨9, 0⟩]⟩ = true ∧ advB ⟨1, [0, -1], [⟨9, 0⟩]⟩ = false ∧ readyB ⟨1, [0, -1], [⟨9, 0⟩]⟩ = false ∧ unpinE ⟨1, [0, -1], [⟨9, 0⟩]⟩ 0 = ⟨1, [-1, -1], [⟨9, 0⟩]⟩ ∧ unpinB ⟨1, [0, -1], [⟨9, 0⟩]⟩ 0 = true ∧
    advE ⟨1, [-1, -1], [⟨9, 0⟩]⟩ = ⟨2, [-1, -1], [⟨9, 0⟩]⟩ ∧ advB ⟨1, [-1, -1], [⟨9, 0⟩]⟩ = true ∧ readyB ⟨2, [-1, -1], [⟨9, 0⟩]⟩ = true ∧ readyZ ⟨2, [-1, -1], [⟨9, 0⟩]⟩ = 9 := by decide
set_option maxHeartbeats 8000000 in
set_option maxRecDepth 20000 in
theorem epoAwake_any (H : EpochOk) (w : World) : Calls Try.prog 8 #[] w fun r w' => r = .returned (.bool true) ∧ Below w.heap.size w w' := by
  obtain ⟨e1, e2, e3, e4, e5, e6, e7, e8, e9, e10, e11, e12, e13, e14, e15, e16⟩ := aw_epo
  have n1 := fun W => H.new 2 W
  have p1 := fun W (F : Nat → Prop) g a n c b m d (h : ∀ b, F b → b < W.heap.size) (l : PList W F g a n c b m d ⟨0, [-1, -1], []⟩) => H.pin F _ 0 g a b n c m d W h l (by have := l.p.length; simp at this; omega) (by have := l.z.length; simp at this; omega)
  have r1 := fun W (F : Nat → Prop) g a n c b m d (h : ∀ b, F b → b < W.heap.size) (l : PList W F g a n c b m d ⟨0, [0, -1], []⟩) => H.retire F _ 9 g a b n c m d W h l (by have := l.p.length; simp at this; omega) (by have := l.z.length; simp at this; omega)
  have a1 := fun W (F : Nat → Prop) g a n c b m d (h : ∀ b, F b → b < W.heap.size) (l : PList W F g a n c b m d ⟨0, [0, -1], [⟨9, 0⟩]⟩) => H.adv F _ g a b n c m d W h l (by have := l.p.length; simp at this; omega) (by have := l.z.length; simp at this; omega)
  have a2 := fun W (F : Nat → Prop) g a n c b m d (h : ∀ b, F b → b < W.heap.size) (l : PList W F g a n c b m d ⟨1, [0, -1], [⟨9, 0⟩]⟩) => H.adv F _ g a b n c m d W h l (by have := l.p.length; simp at this; omega) (by have := l.z.length; simp at this; omega)
  have y1 := fun W (F : Nat → Prop) g a n c b m d (h : ∀ b, F b → b < W.heap.size) (l : PList W F g a n c b m d ⟨1, [0, -1], [⟨9, 0⟩]⟩) => H.ready F _ g a b n c m d W h l (by have := l.p.length; simp at this; omega) (by have := l.z.length; simp at this; omega)
  have u1 := fun W (F : Nat → Prop) g a n c b m d (h : ∀ b, F b → b < W.heap.size) (l : PList W F g a n c b m d ⟨1, [0, -1], [⟨9, 0⟩]⟩) => H.unpin F _ 0 g a b n c m d W h l (by have := l.p.length; simp at this; omega) (by have := l.z.length; simp at this; omega)
  have a3 := fun W (F : Nat → Prop) g a n c b m d (h : ∀ b, F b → b < W.heap.size) (l : PList W F g a n c b m d ⟨1, [-1, -1], [⟨9, 0⟩]⟩) => H.adv F _ g a b n c m d W h l (by have := l.p.length; simp at this; omega) (by have := l.z.length; simp at this; omega)
  have y2 := fun W (F : Nat → Prop) g a n c b m d (h : ∀ b, F b → b < W.heap.size) (l : PList W F g a n c b m d ⟨2, [-1, -1], [⟨9, 0⟩]⟩) => H.ready F _ g a b n c m d W h l (by have := l.p.length; simp at this; omega) (by have := l.z.length; simp at this; omega)
  unfold ENewPost at n1
  unfold EpoPost at p1 r1 a1 a2 u1 a3
  unfold RdyPost at y1 y2
  simp only [e1, e2] at n1
  simp only [e3, e4] at p1
  simp only [e5, e6] at r1
  simp only [e7, e8] at a1
  simp only [e9] at a2
  simp only [e10] at y1
  simp only [e11, e12] at u1
  simp only [e13, e14] at a3
  simp only [e15, e16] at y2
  generalize readyZ ⟨1, [0, -1], [⟨9, 0⟩]⟩ = RZ at y1
  generalize advE ⟨1, [0, -1], [⟨9, 0⟩]⟩ = AE at a2
  clear e1 e2 e3 e4 e5 e6 e7 e8 e9 e10 e11 e12 e13 e14 e15 e16
  have P1 := Lib.hid p1
  have R1 := Lib.hid r1
  have A1 := Lib.hid a1
  have A2 := Lib.hid a2
  have Y1 := Lib.hid y1
  have U1 := Lib.hid u1
  have A3 := Lib.hid a3
  have Y2 := Lib.hid y2
  have N1 := Lib.hid n1
  clear n1 p1 r1 a1 a2 y1 u1 a3 y2
  go_enter Try.func8, Try.ntmps8
  go_wp2_with (first
    | (go_at_call 10; ((with_reducible refine (N1.out _).mono ?_); rintro r9 w5 ⟨xg, xa, xn, xc, xb, xm, xd, rfl, lx, hb⟩; have K := EBox.start hb lx; clear lx hb N1))
    | (go_at_call 19; ((with_reducible refine (P1.out _ _ _ _ _ _ _ _ _ (fun b h => h.2) K.ll.cut).mono ?_); rintro r9 w6 ⟨xg, xa, xn, xc, xb, xm, xd, rfl, lx, h9⟩; have l5 := K.res lx; have K9 := K.on h9; clear K lx h9 P1; have K := K9; clear K9))
    | (go_at_call 20; ((with_reducible refine (R1.out _ _ _ _ _ _ _ _ _ (fun b h => h.2) K.ll.cut).mono ?_); rintro r9 w6 ⟨xg, xa, xn, xc, xb, xm, xd, rfl, lx, h9⟩; have l5 := K.res lx; have K9 := K.on h9; clear K lx h9 R1; have K := K9; clear K9))
    | (go_at_call 21; ((with_reducible refine (A1.out _ _ _ _ _ _ _ _ _ (fun b h => h.2) K.ll.cut).mono ?_); rintro r9 w6 ⟨xg, xa, xn, xc, xb, xm, xd, rfl, lx, h9⟩; have l5 := K.res lx; have K9 := K.on h9; clear K lx h9 A1; have K := K9; clear K9))
    | (go_at_call 21; ((with_reducible refine (A2.out _ _ _ _ _ _ _ _ _ (fun b h => h.2) K.ll.cut).mono ?_); rintro r9 w6 ⟨xg, xa, xn, xc, xb, xm, xd, rfl, lx, h9⟩; have l5 := K.res lx; have K9 := K.on h9; clear K lx h9 A2; have K := K9; clear K9; have K9 := K.al (epoRow xg xa xn xc xb xm xd); clear K l5; have K := K9; clear K9))
    | (go_at_call 22; ((with_reducible refine (Y1.out _ _ _ _ _ _ _ _ _ (fun b h => h.2) K.ll.cut).mono ?_); rintro r9 w6 ⟨rfl, h9⟩; have K9 := K.on h9; clear K h9 Y1; have K := K9; clear K9))
    | (go_at_call 18; ((with_reducible refine (U1.out _ _ _ _ _ _ _ _ _ (fun b h => h.2) K.ll.cut).mono ?_); rintro r9 w6 ⟨xg, xa, xn, xc, xb, xm, xd, rfl, lx, h9⟩; have l5 := K.res lx; have K9 := K.on h9; clear K lx h9 U1; have K := K9; clear K9))
    | (go_at_call 21; ((with_reducible refine (A3.out _ _ _ _ _ _ _ _ _ (fun b h => h.2) K.ll.cut).mono ?_); rintro r9 w6 ⟨xg, xa, xn, xc, xb, xm, xd, rfl, lx, h9⟩; have l5 := K.res lx; have K9 := K.on h9; clear K lx h9 A3; have K := K9; clear K9))
    | (go_at_call 22; ((with_reducible refine (Y2.out _ _ _ _ _ _ _ _ _ (fun b h => h.2) K.ll.cut).mono ?_); rintro r9 w6 ⟨rfl, h9⟩; have K9 := K.on h9; clear K h9 Y2; have K := K9; clear K9))
    | ((with_reducible refine Plan.store_lit 25 (.tmp 1) _ w5.heap.size ?_ K.hX ?_ ?_ ?_ ?_ ?_ ?_); rotate_left; (· rfl); (· rfl); (· exact epo_info); (· rfl); (· simp [Value.oneCell']); simp only [Act.put]; have K9 := K.put l5; generalize w6.setRow w5.heap.size #[.int .i64 xg, .slice xa xn xc, .slice xb xm xd] = w6 at *; clear K l5; have K := K9; clear K9)
    | ((with_reducible refine Plan.load_lit 25 (.tmp 1) (w5.heap.size) ?_ K.hX Try.underlying25 ?_ ?_ ?_); (· rfl); (· rfl); (· exact epo_info); simp only [Act.put, List.setIfInBounds_toArray, List.set_cons_zero, List.set_cons_succ]))
  go_ret
  exact ⟨rfl, K.hb⟩
set_option maxHeartbeats 8000000 in
set_option maxRecDepth 20000 in
theorem epoRaw_any (H : EpochOk) (F : Nat → Prop) (E : Epo) (s z g : Int) (a b : Option Addr) (n c m d : Nat) (w : World) (hl : PList w F g a n c b m d E) (hs : n + m ≤ 4611686018427387904) :
    Calls Try.prog 3 #[epoV g a n c b m d, .int .i64 s, .int .i64 z] w fun r w' => r = .returned (.bool true) ∧ Below w.heap.size w w' := by
  have hb := (Below.refl w.heap.size w).alloc (Nat.le_refl _) (epoRow g a n c b m d)
  have hx := heap_alloc_new w (epoRow g a n c b m d)
  have HW := Lib.hid (fun W => epoAwake_any H W)
  have hw : wrap64 ((n : Int) + (m : Int)) = (n : Int) + (m : Int) := by unfold wrap64; omega
  have hw2 : IntKind.i64.wrap ((n : Int) + (m : Int)) = (n : Int) + (m : Int) := IntWalk.i64_in _ (by omega)
  by_cases hm : n + m ≤ 100
  · have HG := Lib.hid (fun W (h : Below w.heap.size w W) => epoAgree_any H _ E s z g a b n c m d W (hl.same h) (by omega) (by omega))
    have d1 : decide ((100 : Int) < (n : Int) + (m : Int)) = false := by simp; omega
    have d3 : ¬ (100 : Int) < (n : Int) + (m : Int) := by omega
    clear hl
    go_enter Try.func3, Try.ntmps3
    obtain ⟨c0, c1, c2⟩ := three_row hx
    generalize hw0 : w.alloc (epoRow g a n c b m d) = w0 at *
    go_wp2_with (first
      | ((with_reducible refine load_lit_gc 25 (.tmp 3) (w.heap.size) ?_ ?_ hx Try.underlying25 ?_ ?_ ?_); (· rfl); (· rfl); (· rfl); (· exact epo_info); simp only [Act.put, List.setIfInBounds_toArray, List.set_cons_zero, List.set_cons_succ])
      | (go_at_call 7; ((with_reducible refine (HG.out _ hb).mono ?_); rintro r9 w5 ⟨rfl, h9⟩; have hb := hb.trans (h9.mono hb.size)))
      | (go_at_call 8; ((with_reducible refine (HW.out _).mono ?_); rintro r9 w6 ⟨rfl, h9⟩; have hb := hb.trans (h9.mono hb.size))))
    go_ret
    exact ⟨rfl, hb⟩
  · have d1 : decide ((100 : Int) < (n : Int) + (m : Int)) = true := by simp; omega
    have d3 : (100 : Int) < (n : Int) + (m : Int) := by omega
    clear hl
    go_enter Try.func3, Try.ntmps3
    obtain ⟨c0, c1, c2⟩ := three_row hx
    generalize hw0 : w.alloc (epoRow g a n c b m d) = w0 at *
    go_wp2_with (first
      | (go_at_call 8; ((with_reducible refine (HW.out _).mono ?_); rintro r9 w6 ⟨rfl, h9⟩; have hb := hb.trans (h9.mono hb.size))))
    go_ret
    exact ⟨rfl, hb⟩
end Go.Proofs.Ytbfoagfemgogkaa.Ents

/- The walk of the law's do: a step with the document's own epochs. -/
namespace Go.Proofs.Ytbfoagfemgogkaa.Ents
open Go.RowKit Plan EntMath CntMath EpoMath Rws
def doE (E : Epo) (k s z : Int) : Epo := if k = 0 then pinE E s else if k = 1 then unpinE E s else if k = 2 then retireE E z else if k = 3 then (if readyB E = true then forgetE E (readyZ E) else E) else advE E
/-- what do leaves -/
def DoPost (w : World) (F : Nat → Prop) (E : Epo) (r : Ending) (w' : World) : Prop :=
  ∃ g a n c b m d, r = .returned (epoV g a n c b m d) ∧ PList w' (Plus F w.heap.size) g a n c b m d E ∧ Below w.heap.size w w'
set_option maxHeartbeats 8000000 in
set_option maxRecDepth 20000 in
theorem do_any (F : Nat → Prop) (E : Epo) (k s z g : Int) (a b : Option Addr) (n c m d : Nat) (w : World) (hl : PList w F g a n c b m d E) (hm : m ≤ 100000) :
    Calls Try.prog 17 #[epoV g a n c b m d, .int .i64 k, .int .i64 s, .int .i64 z] w (DoPost w F (doE E k s z)) := by
  have K := EpoW.start w (epoRow g a n c b m d)
  have hlw := fun W (h : Below w.heap.size w W) => (show PList W (fun b => F b ∧ b < w.heap.size) g a n c b m d E from hl.cut.on (Same.below h))
  have h1 := fun W h => refPin_any _ E s g a b n c m d W (hlw W h)
  have h2 := fun W h => refUnpin_any _ E s g a b n c m d W (hlw W h)
  have h3 := fun W h => refRetire_any _ E z g a b n c m d W (hlw W h) hm
  have h4 := fun W h => refReady_any _ E g a b n c m d W (hlw W h)
  have h5 := fun W h => refForget_any _ E (readyZ E) g a b n c m d W (hlw W h) hm
  have h6 := fun W h => refAdvance_any _ E g a b n c m d W (hlw W h)
  unfold EpoPost at h1 h2 h3 h5 h6
  unfold RdyPost at h4
  unfold DoPost
  have H1 := Lib.hid h1
  have H2 := Lib.hid h2
  have H3 := Lib.hid h3
  have H4 := Lib.hid h4
  have H5 := Lib.hid h5
  have H6 := Lib.hid h6
  have HL := Lib.hid hlw
  clear h1 h2 h3 h4 h5 h6 hlw hl
  by_cases k0 : k = 0
  · subst k0
    rw [show doE E 0 s z = pinE E s from rfl]
    go_enter Try.func17, Try.ntmps17
    generalize hw0 : (w.alloc (epoRow g a n c b m d)).alloc (epoRow 0 none 0 0 none 0 0) = w0 at *
    go_wp2_with (first
      | ((with_reducible refine Plan.load_lit 25 (.tmp 4) (w.heap.size) ?_ K.hx Try.underlying25 ?_ ?_ ?_); (· rfl); (· rfl); (· exact epo_info); simp only [Act.put, List.setIfInBounds_toArray, List.set_cons_zero, List.set_cons_succ])
      | (go_at_call 25; ((with_reducible refine (H1.out _ K.hb).mono ?_); rintro r9 w6 ⟨xg, xa, xn, xc, xb, xm, xd, rfl, lx, h9⟩; have l5 := lx.mono (G := fun b => (F b ∧ b < w.heap.size) ∨ w.heap.size + 1 < b) (fun b _ h => by have h8 := K.lt; rcases h with h | h; (· exact .inl h); (· exact .inr (by omega))); have K9 := K.on h9; clear hw0 K h9 lx; have K := K9; clear K9))
      | ((with_reducible refine Plan.store_lit 25 (.tmp 4) _ w.heap.size ?_ K.hx ?_ ?_ ?_ ?_ ?_ ?_); rotate_left; (· rfl); (· rfl); (· exact epo_info); (· rfl); (· simp [Value.oneCell']); simp only [Act.put]; have K9 := K.put (XR := epoRow xg xa xn xc xb xm xd) rfl; have l6 := l5.on (Same.row (r := w.heap.size) (fun h => by rcases h with h | h; (· have := h.2; omega); (· omega)) #[.int .i64 xg, .slice xa xn xc, .slice xb xm xd]); generalize w6.setRow w.heap.size #[.int .i64 xg, .slice xa xn xc, .slice xb xm xd] = w7 at *; clear K l5; have K := K9; have l5 := l6; clear K9 l6)
      | ((with_reducible refine Plan.store_lit 25 (.tmp 8) _ (w.heap.size + 1) ?_ K.hr ?_ ?_ ?_ ?_ ?_ ?_); rotate_left; (· rfl); (· rfl); (· exact epo_info); (· rfl); (· simp [Value.oneCell']); simp only [Act.put]))
    exact bodyPost_ret (results_cell_row rfl _ _ _ _ _ _ _ rfl (setRow_heap _ _ _ _ _ _ K.hr) Try.underlying25 rfl epo_info) rfl ⟨_, _, _, _, _, _, _, rfl, (l5.on (Same.row (r := w.heap.size + 1) (fun h => by rcases h with h | h; (· have := h.2; omega); (· omega)) _)).mono (fun b _ h => by rcases h with h | h; (· exact .inl h.1); (· exact .inr (by omega))), below_setRow K.hb (show w.heap.size ≤ w.heap.size + 1 by omega) _⟩
  · by_cases k1 : k = 1
    · subst k1
      rw [show doE E 1 s z = unpinE E s from rfl]
      go_enter Try.func17, Try.ntmps17
      generalize hw0 : (w.alloc (epoRow g a n c b m d)).alloc (epoRow 0 none 0 0 none 0 0) = w0 at *
      go_wp2_with (first
        | ((with_reducible refine Plan.load_lit 25 (.tmp 4) (w.heap.size) ?_ K.hx Try.underlying25 ?_ ?_ ?_); (· rfl); (· rfl); (· exact epo_info); simp only [Act.put, List.setIfInBounds_toArray, List.set_cons_zero, List.set_cons_succ])
        | (go_at_call 27; ((with_reducible refine (H2.out _ K.hb).mono ?_); rintro r9 w6 ⟨xg, xa, xn, xc, xb, xm, xd, rfl, lx, h9⟩; have l5 := lx.mono (G := fun b => (F b ∧ b < w.heap.size) ∨ w.heap.size + 1 < b) (fun b _ h => by have h8 := K.lt; rcases h with h | h; (· exact .inl h); (· exact .inr (by omega))); have K9 := K.on h9; clear hw0 K h9 lx; have K := K9; clear K9))
        | ((with_reducible refine Plan.store_lit 25 (.tmp 4) _ w.heap.size ?_ K.hx ?_ ?_ ?_ ?_ ?_ ?_); rotate_left; (· rfl); (· rfl); (· exact epo_info); (· rfl); (· simp [Value.oneCell']); simp only [Act.put]; have K9 := K.put (XR := epoRow xg xa xn xc xb xm xd) rfl; have l6 := l5.on (Same.row (r := w.heap.size) (fun h => by rcases h with h | h; (· have := h.2; omega); (· omega)) #[.int .i64 xg, .slice xa xn xc, .slice xb xm xd]); generalize w6.setRow w.heap.size #[.int .i64 xg, .slice xa xn xc, .slice xb xm xd] = w7 at *; clear K l5; have K := K9; have l5 := l6; clear K9 l6)
        | ((with_reducible refine Plan.store_lit 25 (.tmp 8) _ (w.heap.size + 1) ?_ K.hr ?_ ?_ ?_ ?_ ?_ ?_); rotate_left; (· rfl); (· rfl); (· exact epo_info); (· rfl); (· simp [Value.oneCell']); simp only [Act.put]))
      exact bodyPost_ret (results_cell_row rfl _ _ _ _ _ _ _ rfl (setRow_heap _ _ _ _ _ _ K.hr) Try.underlying25 rfl epo_info) rfl ⟨_, _, _, _, _, _, _, rfl, (l5.on (Same.row (r := w.heap.size + 1) (fun h => by rcases h with h | h; (· have := h.2; omega); (· omega)) _)).mono (fun b _ h => by rcases h with h | h; (· exact .inl h.1); (· exact .inr (by omega))), below_setRow K.hb (show w.heap.size ≤ w.heap.size + 1 by omega) _⟩
    · by_cases k2 : k = 2
      · subst k2
        rw [show doE E 2 s z = retireE E z from rfl]
        go_enter Try.func17, Try.ntmps17
        generalize hw0 : (w.alloc (epoRow g a n c b m d)).alloc (epoRow 0 none 0 0 none 0 0) = w0 at *
        go_wp2_with (first
          | ((with_reducible refine Plan.load_lit 25 (.tmp 4) (w.heap.size) ?_ K.hx Try.underlying25 ?_ ?_ ?_); (· rfl); (· rfl); (· exact epo_info); simp only [Act.put, List.setIfInBounds_toArray, List.set_cons_zero, List.set_cons_succ])
          | (go_at_call 28; ((with_reducible refine (H3.out _ K.hb).mono ?_); rintro r9 w6 ⟨xg, xa, xn, xc, xb, xm, xd, rfl, lx, h9⟩; have l5 := lx.mono (G := fun b => (F b ∧ b < w.heap.size) ∨ w.heap.size + 1 < b) (fun b _ h => by have h8 := K.lt; rcases h with h | h; (· exact .inl h); (· exact .inr (by omega))); have K9 := K.on h9; clear hw0 K h9 lx; have K := K9; clear K9))
          | ((with_reducible refine Plan.store_lit 25 (.tmp 4) _ w.heap.size ?_ K.hx ?_ ?_ ?_ ?_ ?_ ?_); rotate_left; (· rfl); (· rfl); (· exact epo_info); (· rfl); (· simp [Value.oneCell']); simp only [Act.put]; have K9 := K.put (XR := epoRow xg xa xn xc xb xm xd) rfl; have l6 := l5.on (Same.row (r := w.heap.size) (fun h => by rcases h with h | h; (· have := h.2; omega); (· omega)) #[.int .i64 xg, .slice xa xn xc, .slice xb xm xd]); generalize w6.setRow w.heap.size #[.int .i64 xg, .slice xa xn xc, .slice xb xm xd] = w7 at *; clear K l5; have K := K9; have l5 := l6; clear K9 l6)
          | ((with_reducible refine Plan.store_lit 25 (.tmp 8) _ (w.heap.size + 1) ?_ K.hr ?_ ?_ ?_ ?_ ?_ ?_); rotate_left; (· rfl); (· rfl); (· exact epo_info); (· rfl); (· simp [Value.oneCell']); simp only [Act.put]))
        exact bodyPost_ret (results_cell_row rfl _ _ _ _ _ _ _ rfl (setRow_heap _ _ _ _ _ _ K.hr) Try.underlying25 rfl epo_info) rfl ⟨_, _, _, _, _, _, _, rfl, (l5.on (Same.row (r := w.heap.size + 1) (fun h => by rcases h with h | h; (· have := h.2; omega); (· omega)) _)).mono (fun b _ h => by rcases h with h | h; (· exact .inl h.1); (· exact .inr (by omega))), below_setRow K.hb (show w.heap.size ≤ w.heap.size + 1 by omega) _⟩
      · by_cases k3 : k = 3
        · subst k3
          have hd : doE E 3 s z = if readyB E = true then forgetE E (readyZ E) else E := rfl
          cases hr : readyB E
          · rw [hd, hr, if_neg (by decide)]
            rw [hr] at H4
            generalize readyZ E = RZ at *
            clear hd hr
            go_enter Try.func17, Try.ntmps17
            generalize hw0 : (w.alloc (epoRow g a n c b m d)).alloc (epoRow 0 none 0 0 none 0 0) = w0 at *
            go_wp2_with (first
              | ((with_reducible refine Plan.load_lit 25 (.tmp 4) (w.heap.size) ?_ K.hx Try.underlying25 ?_ ?_ ?_); (· rfl); (· rfl); (· exact epo_info); simp only [Act.put, List.setIfInBounds_toArray, List.set_cons_zero, List.set_cons_succ])
              | (go_at_call 16; ((with_reducible refine (H4.out _ K.hb).mono ?_); rintro r9 w6 ⟨rfl, h9⟩; have K9 := K.on h9; clear K h9 H4 hw0; have K := K9; clear K9))
              | ((with_reducible refine Plan.store_lit 25 (.tmp 8) _ (w.heap.size + 1) ?_ K.hr ?_ ?_ ?_ ?_ ?_ ?_); rotate_left; (· rfl); (· rfl); (· exact epo_info); (· rfl); (· simp [Value.oneCell']); simp only [Act.put]))
            have l5 := (HL.out _ K.hb).mono (G := fun b => (F b ∧ b < w.heap.size) ∨ w.heap.size + 1 < b) (fun b _ h => .inl h)
            exact bodyPost_ret (results_cell_row rfl _ _ _ _ _ _ _ rfl (setRow_heap _ _ _ _ _ _ K.hr) Try.underlying25 rfl epo_info) rfl ⟨_, _, _, _, _, _, _, rfl, (l5.on (Same.row (r := w.heap.size + 1) (fun h => by rcases h with h | h; (· have := h.2; omega); (· omega)) _)).mono (fun b _ h => by rcases h with h | h; (· exact .inl h.1); (· exact .inr (by omega))), below_setRow K.hb (show w.heap.size ≤ w.heap.size + 1 by omega) _⟩
          · rw [hd, hr, if_pos rfl]
            rw [hr] at H4
            generalize readyZ E = RZ at *
            clear hd hr
            go_enter Try.func17, Try.ntmps17
            generalize hw0 : (w.alloc (epoRow g a n c b m d)).alloc (epoRow 0 none 0 0 none 0 0) = w0 at *
            go_wp2_with (first
              | ((with_reducible refine Plan.load_lit 25 (.tmp 4) (w.heap.size) ?_ K.hx Try.underlying25 ?_ ?_ ?_); (· rfl); (· rfl); (· exact epo_info); simp only [Act.put, List.setIfInBounds_toArray, List.set_cons_zero, List.set_cons_succ])
              | (go_at_call 16; ((with_reducible refine (H4.out _ K.hb).mono ?_); rintro r9 w6 ⟨rfl, h9⟩; have K9 := K.on h9; clear K h9 H4 hw0; have K := K9; clear K9))
              | (go_at_call 30; ((with_reducible refine (H5.out _ K.hb).mono ?_); rintro r9 w6 ⟨xg, xa, xn, xc, xb, xm, xd, rfl, lx, h9⟩; have l5 := lx.mono (G := fun b => (F b ∧ b < w.heap.size) ∨ w.heap.size + 1 < b) (fun b _ h => by have h8 := K.lt; rcases h with h | h; (· exact .inl h); (· exact .inr (by omega))); have K9 := K.on h9; clear K h9 lx; have K := K9; clear K9))
              | ((with_reducible refine Plan.store_lit 25 (.tmp 4) _ w.heap.size ?_ K.hx ?_ ?_ ?_ ?_ ?_ ?_); rotate_left; (· rfl); (· rfl); (· exact epo_info); (· rfl); (· simp [Value.oneCell']); simp only [Act.put]; have K9 := K.put (XR := epoRow xg xa xn xc xb xm xd) rfl; have l6 := l5.on (Same.row (r := w.heap.size) (fun h => by rcases h with h | h; (· have := h.2; omega); (· omega)) #[.int .i64 xg, .slice xa xn xc, .slice xb xm xd]); generalize w6.setRow w.heap.size #[.int .i64 xg, .slice xa xn xc, .slice xb xm xd] = w7 at *; clear K l5; have K := K9; have l5 := l6; clear K9 l6)
              | ((with_reducible refine Plan.store_lit 25 (.tmp 8) _ (w.heap.size + 1) ?_ K.hr ?_ ?_ ?_ ?_ ?_ ?_); rotate_left; (· rfl); (· rfl); (· exact epo_info); (· rfl); (· simp [Value.oneCell']); simp only [Act.put]))
            exact bodyPost_ret (results_cell_row rfl _ _ _ _ _ _ _ rfl (setRow_heap _ _ _ _ _ _ K.hr) Try.underlying25 rfl epo_info) rfl ⟨_, _, _, _, _, _, _, rfl, (l5.on (Same.row (r := w.heap.size + 1) (fun h => by rcases h with h | h; (· have := h.2; omega); (· omega)) _)).mono (fun b _ h => by rcases h with h | h; (· exact .inl h.1); (· exact .inr (by omega))), below_setRow K.hb (show w.heap.size ≤ w.heap.size + 1 by omega) _⟩
        · rw [show doE E k s z = advE E from by unfold doE; rw [if_neg k0, if_neg k1, if_neg k2, if_neg k3]]
          have t0 : (k == 0) = false := by simpa using k0
          have t1 : (k == 1) = false := by simpa using k1
          have t2 : (k == 2) = false := by simpa using k2
          have t3 : (k == 3) = false := by simpa using k3
          go_enter Try.func17, Try.ntmps17
          generalize hw0 : (w.alloc (epoRow g a n c b m d)).alloc (epoRow 0 none 0 0 none 0 0) = w0 at *
          go_wp2_with (first
            | ((with_reducible refine Plan.load_lit 25 (.tmp 4) (w.heap.size) ?_ K.hx Try.underlying25 ?_ ?_ ?_); (· rfl); (· rfl); (· exact epo_info); simp only [Act.put, List.setIfInBounds_toArray, List.set_cons_zero, List.set_cons_succ])
            | (go_at_call 29; ((with_reducible refine (H6.out _ K.hb).mono ?_); rintro r9 w6 ⟨xg, xa, xn, xc, xb, xm, xd, rfl, lx, h9⟩; have l5 := lx.mono (G := fun b => (F b ∧ b < w.heap.size) ∨ w.heap.size + 1 < b) (fun b _ h => by have h8 := K.lt; rcases h with h | h; (· exact .inl h); (· exact .inr (by omega))); have K9 := K.on h9; clear hw0 K h9 lx; have K := K9; clear K9))
            | ((with_reducible refine Plan.store_lit 25 (.tmp 4) _ w.heap.size ?_ K.hx ?_ ?_ ?_ ?_ ?_ ?_); rotate_left; (· rfl); (· rfl); (· exact epo_info); (· rfl); (· simp [Value.oneCell']); simp only [Act.put]; have K9 := K.put (XR := epoRow xg xa xn xc xb xm xd) rfl; have l6 := l5.on (Same.row (r := w.heap.size) (fun h => by rcases h with h | h; (· have := h.2; omega); (· omega)) #[.int .i64 xg, .slice xa xn xc, .slice xb xm xd]); generalize w6.setRow w.heap.size #[.int .i64 xg, .slice xa xn xc, .slice xb xm xd] = w7 at *; clear K l5; have K := K9; have l5 := l6; clear K9 l6)
            | ((with_reducible refine Plan.store_lit 25 (.tmp 8) _ (w.heap.size + 1) ?_ K.hr ?_ ?_ ?_ ?_ ?_ ?_); rotate_left; (· rfl); (· rfl); (· exact epo_info); (· rfl); (· simp [Value.oneCell']); simp only [Act.put]))
          exact bodyPost_ret (results_cell_row rfl _ _ _ _ _ _ _ rfl (setRow_heap _ _ _ _ _ _ K.hr) Try.underlying25 rfl epo_info) rfl ⟨_, _, _, _, _, _, _, rfl, (l5.on (Same.row (r := w.heap.size + 1) (fun h => by rcases h with h | h; (· have := h.2; omega); (· omega)) _)).mono (fun b _ h => by rcases h with h | h; (· exact .inl h.1); (· exact .inr (by omega))), below_setRow K.hb (show w.heap.size ≤ w.heap.size + 1 by omega) _⟩
end Go.Proofs.Ytbfoagfemgogkaa.Ents

/- The walk of the maker's Next, for any dice. -/
namespace Go.Proofs.Ytbfoagfemgogkaa
open Go.RowKit Plan

/-- behind Next: the number, the dice one further, nothing else changed -/
def NextPost (w : World) (base g : Nat) (zs : List Int) (k : Nat) (n : Int) (e : Ending) (w' : World) : Prop :=
  e = .returned (.int .i64 (nxt zs k n)) ∧ Dice w' base g zs (stp zs k) ∧ w.grownBy w' (some g) ∧ w'.heap.size = w.heap.size
theorem dice_drew {w : World} {base g : Nat} {zs : List Int} {k : Nat} (h : Dice w base g zs k) : Dice w.drew base g zs k := dice_on h (Below.refl _ _).drew (Nat.le_refl _)
theorem grownBy_drew (w : World) (r : Option Nat) : w.grownBy w.drew r := ⟨rfl, rfl, rfl, Nat.le_refl _, fun _ _ _ => rfl⟩
set_option maxHeartbeats 400000 in
theorem next_end (w : World) (base g : Nat) (zs : List Int) (k : Nat) (n : Int) (hd : Dice w base g zs k) (hk : zs.length ≤ k) :
    Calls Try.prog 15 #[.pointer (some ⟨g, 0, none⟩), .int .i64 n] w (NextPost w base g zs k n) := by
  have hd2 := dice_drew hd
  obtain ⟨v, hg, hown, hne, hb⟩ := hd
  have c0 := cell_of_row _ _ 0 _ _ _ hg
  have c1 := cell_of_row _ _ 1 _ _ _ hg
  simp only [List.getElem?_toArray, List.getElem?_cons_zero, List.getElem?_cons_succ] at c0 c1
  have hle : decide ((zs.length : Int) ≤ (k : Int)) = true := by simp; omega
  have hv : v = .slice none 0 0 ∧ zs.length = 0 ∨ ∃ b c, v = .slice (some ⟨b, 0, none⟩) zs.length c := by
    rcases hown.2 with h | ⟨b, c, _, h, _⟩
    · exact .inl h
    · exact .inr ⟨b, c, h⟩
  have hx : nxt zs k n = 0 := if_neg (by omega)
  have hs : stp zs k = k := if_neg (by omega)
  have HX := Lib.hid hx
  have HS := Lib.hid hs
  have HD := Lib.hid hd2
  clear hx hs hd2 hg hown
  rcases hv with ⟨rfl, h0⟩ | ⟨b, c, rfl⟩
  · rw [h0] at hle
    clear h0
    go_enter Try.func15, Try.ntmps15
    go_wp2_with fail
    refine Plan.start (fun w' => w' = w.drew) [(0, true), (1, true), (2, true), (3, true), (4, true), (5, true), (6, true), (7, true), (8, true), (9, true)] (by kernel_rfl) (by kernel_rfl) (by kernel_rfl) (by kernel_rfl) rfl ?_
    simp only [List.map_cons, List.map_nil, List.getElem?_toArray, List.getElem?_cons_zero, List.getElem?_cons_succ]
    repeat (first | (refine Plan.take ?_ (by rfl) ?_ ?_; rotate_left; (· rintro w9 rfl; go_simp; (try rw [if_neg (by omega)]); all_goals (with_reducible rfl)); simp only [Act.put, List.setIfInBounds_toArray, List.set_cons_zero, List.set_cons_succ]) | (refine Plan.pass (by rfl) ?_; simp only [Act.put, List.setIfInBounds_toArray, List.set_cons_zero, List.set_cons_succ]))
    refine Plan.ends ?_
    go_wp2
    go_ret
    exact ⟨ret_i64 HX.out.symm, by rw [HS.out]; exact HD.out, grownBy_drew _ _, rfl⟩
  · go_enter Try.func15, Try.ntmps15
    go_wp2_with fail
    refine Plan.start (fun w' => w' = w.drew) [(0, true), (1, true), (2, true), (3, true), (4, true), (5, true), (6, true), (7, true), (8, true), (9, true)] (by kernel_rfl) (by kernel_rfl) (by kernel_rfl) (by kernel_rfl) rfl ?_
    simp only [List.map_cons, List.map_nil, List.getElem?_toArray, List.getElem?_cons_zero, List.getElem?_cons_succ]
    repeat (first | (refine Plan.take ?_ (by rfl) ?_ ?_; rotate_left; (· rintro w9 rfl; go_simp; (try rw [if_neg (by omega)]); all_goals (with_reducible rfl)); simp only [Act.put, List.setIfInBounds_toArray, List.set_cons_zero, List.set_cons_succ]) | (refine Plan.pass (by rfl) ?_; simp only [Act.put, List.setIfInBounds_toArray, List.set_cons_zero, List.set_cons_succ]))
    refine Plan.ends ?_
    go_wp2
    go_ret
    exact ⟨ret_i64 HX.out.symm, by rw [HS.out]; exact HD.out, grownBy_drew _ _, rfl⟩
theorem dice_step {w : World} {base g : Nat} {zs : List Int} {k : Nat} (h : Dice w base g zs k) (j : Nat) : Dice (w.setCell ⟨g, 1, none⟩ (.int .i64 j)) base g zs j := by
  obtain ⟨v, hg, hown, hne, hb⟩ := h
  refine ⟨v, ?_, hown.kept (row := some g) ⟨rfl, rfl, rfl, Nat.le_of_eq (by simp [World.setCell]), fun i _ hne => Below.heap_setCell w ⟨g, 1, none⟩ _ i (fun e => hne (by rw [e]))⟩ (.inr fun e => Nat.lt_irrefl _ (hne g e)), hne, hb⟩
  rw [setCell_eq_setRow w g 1 _ _ _ _ hg]
  exact setRow_heap w g _ _ _ _ hg
theorem grownBy_step (w : World) (g : Nat) (x : Value) : w.grownBy (w.setCell ⟨g, 1, none⟩ x) (some g) :=
  ⟨rfl, rfl, rfl, Nat.le_of_eq (by simp [World.setCell]), fun i _ hne => Below.heap_setCell w ⟨g, 1, none⟩ _ i (fun e => hne (by rw [e]))⟩
theorem grownBy_trans {a b c : World} {r : Option Nat} (h : a.grownBy b r) (h2 : b.grownBy c r) : a.grownBy c r :=
  ⟨h2.os.trans h.os, h2.tape.trans h.tape, h2.output.trans h.output, Nat.le_trans h.size h2.size, fun k hk hr => (h2.block k (Nat.lt_of_lt_of_le hk h.size) hr).trans (h.block k hk hr)⟩
set_option maxHeartbeats 1000000 in
theorem next_more (w : World) (base g : Nat) (zs : List Int) (k : Nat) (n : Int) (hd : Dice w base g zs k) (hk : k < zs.length) (hl : zs.length ≤ 100000) (hn1 : 1 ≤ n) (hn2 : n ≤ 4611686018427387904) :
    Calls Try.prog 15 #[.pointer (some ⟨g, 0, none⟩), .int .i64 n] w (NextPost w base g zs k n) := by
  have hstep := dice_step (dice_drew hd) (k + 1)
  obtain ⟨v, hg, hown, hne, hb⟩ := hd
  have c0 := cell_of_row _ _ 0 _ _ _ hg
  have c1 := cell_of_row _ _ 1 _ _ _ hg
  simp only [List.getElem?_toArray, List.getElem?_cons_zero, List.getElem?_cons_succ] at c0 c1
  have f1 : w.frozen? ⟨g, 1, none⟩ = false := by simp [World.frozen?, hg]
  have hle : decide ((zs.length : Int) ≤ (k : Int)) = false := by simp; omega
  have hv : ∃ b c, v = .slice (some ⟨b, 0, none⟩) zs.length c := by
    rcases hown.2 with ⟨_, h⟩ | ⟨b, c, _, h, _⟩
    · omega
    · exact ⟨b, c, h⟩
  obtain ⟨b, c, rfl⟩ := hv
  have hbg : b ≠ g := Nat.ne_of_lt (hne b rfl)
  have ck := hown.cells (g := b) rfl k (.int .i64 (zs.getD k 0)) (by
    simp only [ints, List.getElem?_map, List.getElem?_eq_getElem hk, Option.map_some]
    rw [List.getD_eq_getElem?_getD, List.getElem?_eq_getElem hk]
    rfl)
  have hadd : (⟨b, 0, none⟩ : Addr).add k = ⟨b, k, none⟩ := by unfold Addr.add; split <;> simp_all
  rw [hadd] at ck
  have hm : ∀ w, Calls Try.prog 33 #[.int .i64 (zs.getD k 0), .int .i64 n] w fun e w' => e = .returned (.int .i64 (zs.getD k 0 % n)) ∧ w = w' := fun w => mod_any _ n hn1 hn2 w
  have hx : nxt zs k n = zs.getD k 0 % n := if_pos hk
  have hs : stp zs k = k + 1 := if_pos hk
  have hwk : IntKind.i64.wrap (k : Int) = (k : Int) := IntWalk.i64_in _ (by omega)
  have k0 : (0 : Int) ≤ (k : Int) := by omega
  have k1 : (k : Int) < (zs.length : Int) := by omega
  have HX := Lib.hid hx
  have HS := Lib.hid hs
  have HD := Lib.hid hstep
  have HM := Lib.hid hm
  clear hx hs hstep hm hg hown hadd hne hk
  generalize zs.getD k 0 = z at *
  generalize zs.length = L at *
  go_enter Try.func15, Try.ntmps15
  go_wp2_with fail
  refine Plan.start (fun w' => w' = w.drew) [(0, true), (1, true), (2, true), (3, true), (4, true), (5, true), (6, true), (7, true), (8, true), (9, true)] (by kernel_rfl) (by kernel_rfl) (by kernel_rfl) (by kernel_rfl) rfl ?_
  simp only [List.map_cons, List.map_nil, List.getElem?_toArray, List.getElem?_cons_zero, List.getElem?_cons_succ]
  repeat (first | (refine Plan.take ?_ (by rfl) ?_ ?_; rotate_left; (· rintro w9 rfl; go_simp; (try rw [if_neg (by omega)]); all_goals (with_reducible rfl)); simp only [Act.put, List.setIfInBounds_toArray, List.set_cons_zero, List.set_cons_succ]) | (refine Plan.pass (by rfl) ?_; simp only [Act.put, List.setIfInBounds_toArray, List.set_cons_zero, List.set_cons_succ]))
  refine Plan.ends ?_
  go_wp2_with fail
  have d0 : (w.setCell ⟨g, 1, none⟩ (.int .i64 ((k : Int) + 1))).drew.cell? ⟨g, 0, none⟩ = some (.slice (some ⟨b, 0, none⟩) L c) := (World.cell?_setCell_other _ _ _ _ (by simp)).trans c0
  have d1 : (w.setCell ⟨g, 1, none⟩ (.int .i64 ((k : Int) + 1))).drew.cell? ⟨g, 1, none⟩ = some (.int .i64 ((k : Int) + 1)) := World.cell?_setCell_same _ _ _ c1
  have dk : (w.setCell ⟨g, 1, none⟩ (.int .i64 ((k : Int) + 1))).drew.cell? ⟨b, k, none⟩ = some (.int .i64 z) := (World.cell?_setCell_other _ _ _ _ (by intro h; cases h; exact hbg rfl)).trans ck
  have e1 : w.grownBy (w.setCell ⟨g, 1, none⟩ (.int .i64 ((k : Int) + 1))).drew (some g) := grownBy_trans (grownBy_step w g _) (grownBy_drew _ _)
  have e2 : (w.setCell ⟨g, 1, none⟩ (.int .i64 ((k : Int) + 1))).drew.heap.size = w.heap.size := by simp [World.setCell, World.drew]
  have e3 : Dice (w.setCell ⟨g, 1, none⟩ (.int .i64 ((k : Int) + 1))).drew base g zs (k + 1) := by
    have h := HD.out
    rw [show ((k + 1 : Nat) : Int) = (k : Int) + 1 by omega] at h
    exact h
  generalize (w.setCell ⟨g, 1, none⟩ (.int .i64 ((k : Int) + 1))).drew = W at d0 d1 dk e1 e2 e3 ⊢
  have E3 := Lib.hid e3
  have E2 := Lib.hid e2
  clear e2 e3 c0 c1 ck HD
  refine Plan.start (fun w' => w' = W.drew) [(0, true), (1, true), (2, true), (3, true), (4, true), (5, true), (6, true), (7, true), (8, true), (9, true), (10, true), (11, true), (12, false), (13, true)] (by kernel_rfl) (by kernel_rfl) (by kernel_rfl) (by kernel_rfl) rfl ?_
  simp only [List.map_cons, List.map_nil, List.getElem?_toArray, List.getElem?_cons_zero, List.getElem?_cons_succ]
  repeat (first | (refine Plan.take ?_ (by rfl) ?_ ?_; rotate_left; (· rintro w9 rfl; go_simp; (try rw [if_neg (by omega)]); all_goals (with_reducible rfl)); simp only [Act.put, List.setIfInBounds_toArray, List.set_cons_zero, List.set_cons_succ]) | (refine Plan.pass (by rfl) ?_; simp only [Act.put, List.setIfInBounds_toArray, List.set_cons_zero, List.set_cons_succ]))
  refine Plan.call (by rfl) 33 _ ?_ (HM.out _) ?_
  · go_simp
  rintro e w1 ⟨rfl, rfl⟩
  refine ⟨_, rfl, rfl, ?_⟩
  simp only [Act.put, List.setIfInBounds_toArray, List.set_cons_zero, List.set_cons_succ]
  repeat (first | (refine Plan.take ?_ (by rfl) ?_ ?_; rotate_left; (· rintro w9 rfl; go_simp; (try rw [if_neg (by omega)]); all_goals (with_reducible rfl)); simp only [Act.put, List.setIfInBounds_toArray, List.set_cons_zero, List.set_cons_succ]) | (refine Plan.pass (by rfl) ?_; simp only [Act.put, List.setIfInBounds_toArray, List.set_cons_zero, List.set_cons_succ]))
  refine Plan.ends ?_
  go_wp2
  go_ret
  exact ⟨ret_i64 HX.out.symm, by rw [HS.out]; exact dice_drew E3.out, grownBy_trans e1 (grownBy_drew _ _), E2.out⟩
/-- Next, for any dice of at most 100000 numbers -/
theorem next_any (w : World) (base g : Nat) (zs : List Int) (k : Nat) (n : Int) (hd : Dice w base g zs k) (hl : zs.length ≤ 100000) (hn1 : 1 ≤ n) (hn2 : n ≤ 4611686018427387904) :
    Calls Try.prog 15 #[.pointer (some ⟨g, 0, none⟩), .int .i64 n] w (NextPost w base g zs k n) := by
  by_cases hk : k < zs.length
  · exact next_more w base g zs k n hd hk hl hn1 hn2
  · exact next_end w base g zs k n hd (by omega)
end Go.Proofs.Ytbfoagfemgogkaa

/- The walk of the maker's Rest, for any dice. -/
namespace Go.Proofs.Ytbfoagfemgogkaa
open Go.RowKit Plan
set_option maxHeartbeats 400000 in
/-- Rest: how many numbers are left -/
theorem rest_dice (w : World) (base g : Nat) (zs : List Int) (k : Nat) (hd : Dice w base g zs k) (hl : zs.length ≤ 100000) (hk : k ≤ 100000) :
    Calls Try.prog 14 #[.pointer (some ⟨g, 0, none⟩)] w fun e w' => e = .returned (.int .i64 (max 0 ((zs.length : Int) - (k : Int)))) ∧ w' = w.drew := by
  obtain ⟨v, hg, hown, hne, hb⟩ := hd
  have c0 := cell_of_row _ _ 0 _ _ _ hg
  have c1 := cell_of_row _ _ 1 _ _ _ hg
  simp only [List.getElem?_toArray, List.getElem?_cons_zero, List.getElem?_cons_succ] at c0 c1
  have hwr : IntKind.i64.wrap ((zs.length : Int) - (k : Int)) = (zs.length : Int) - (k : Int) := IntWalk.i64_in _ (by omega)
  have hv : ∃ a c, v = .slice a zs.length c := by
    rcases hown.2 with ⟨h, h0⟩ | ⟨b, c, _, h, _⟩
    · exact ⟨none, 0, by rw [h, h0]⟩
    · exact ⟨_, c, h⟩
  obtain ⟨a, c, rfl⟩ := hv
  clear hown hne hg
  go_enter Try.func14, Try.ntmps14
  go_wp2_with fail
  refine Plan.start (fun w' => w' = w.drew) [(0, true), (1, true), (2, true), (3, true), (4, true), (5, true), (6, true), (7, true), (8, true), (9, true), (10, true), (11, true)] (by kernel_rfl) (by kernel_rfl) (by kernel_rfl) (by kernel_rfl) rfl ?_
  simp only [List.map_cons, List.map_nil, List.getElem?_toArray, List.getElem?_cons_zero, List.getElem?_cons_succ]
  repeat (first | (refine Plan.take ?_ (by rfl) ?_ ?_; rotate_left; (· rintro w9 rfl; go_simp; (try rw [if_neg (by omega)]); all_goals (with_reducible rfl)); simp only [Act.put, List.setIfInBounds_toArray, List.set_cons_zero, List.set_cons_succ]) | (refine Plan.pass (by rfl) ?_; simp only [Act.put, List.setIfInBounds_toArray, List.set_cons_zero, List.set_cons_succ]))
  refine Plan.ends ?_
  go_wp2
  all_goals go_ret
  all_goals exact ⟨ret_i64 (by omega), rfl⟩
end Go.Proofs.Ytbfoagfemgogkaa

/- Counters that follow a shard. Plain mathematics. -/
namespace Go.Proofs.Ytbfoagfemgogkaa.CntMath
open EntMath
/-- how many entries lie in a zone -/
def zc (i : Int) (S : List Ent) : Nat := S.countP fun e => decide (e.zone = i)
theorem zc_nil (i : Int) : zc i [] = 0 := rfl
theorem zc_cons (i : Int) (e : Ent) (S : List Ent) : zc i (e :: S) = zc i S + if e.zone = i then 1 else 0 := by
  unfold zc
  rw [List.countP_cons]
  simp
theorem zc_append (i : Int) (S T : List Ent) : zc i (S ++ T) = zc i S + zc i T := by unfold zc; rw [List.countP_append]
theorem zc_le (i : Int) (S : List Ent) : zc i S ≤ S.length := List.countP_le_length
theorem plus_getD (l : List Int) (k i : Nat) (hi : i < l.length) (n : Int) : (plusL l k n).getD i 0 = l.getD i 0 + if k = i then n else 0 := by
  unfold plusL
  rw [List.getD_eq_getElem?_getD, List.getElem?_set]
  by_cases h : k = i
  · subst h
    rw [if_pos rfl, if_pos hi, if_pos rfl]
    rfl
  · rw [if_neg h, if_neg h, Int.add_zero, ← List.getD_eq_getElem?_getD]
theorem count_getD (S : List Ent) : ∀ (l : List Int) (i : Nat), i < l.length → (∀ e ∈ S, 0 ≤ e.zone) → (countL l S).getD i 0 = l.getD i 0 + (zc (i : Int) S : Int) := by
  induction S with
  | nil => intro l i _ _; simp [countL, zc]
  | cons e S ih =>
    intro l i hi hz
    have h0 := hz e (List.mem_cons_self ..)
    show (countL (plusL l e.zone.toNat 1) S).getD i 0 = _
    rw [ih _ i (by rw [plus_len]; exact hi) (fun x hx => hz x (List.mem_cons_of_mem _ hx)), plus_getD _ _ _ hi, zc_cons]
    by_cases h : e.zone = (i : Int)
    · rw [if_pos (by omega), if_pos h]
      omega
    · rw [if_neg (by omega), if_neg h]
      omega
theorem list_eq {l m : List Int} (h : l.length = m.length) (hi : ∀ i, i < l.length → l.getD i 0 = m.getD i 0) : l = m := by
  refine List.ext_getElem h fun i h1 h2 => ?_
  have := hi i h1
  rw [List.getD_eq_getElem?_getD, List.getD_eq_getElem?_getD, List.getElem?_eq_getElem h1, List.getElem?_eq_getElem h2] at this
  exact this
/-- the counters of a list of entries -/
def cOf (n : Nat) (S : List Ent) : Cnt := ⟨countL (List.replicate n 0) S, List.replicate n 0⟩
theorem in_pos {n : Nat} {S : List Ent} (h : inZ (n : Int) S = true) : ∀ e ∈ S, 0 ≤ e.zone ∧ e.zone < (n : Int) := by
  intro e he
  have := List.all_eq_true.1 h e he
  simpa using this
theorem in_of {n : Nat} {S : List Ent} (h : ∀ e ∈ S, 0 ≤ e.zone ∧ e.zone < (n : Int)) : inZ (n : Int) S = true := List.all_eq_true.2 fun e he => by simpa using h e he
theorem of_is {n : Nat} {S : List Ent} (h1 : 1 ≤ n) (h2 : n ≤ 32) (h : inZ (n : Int) S = true) : ofB (n : Int) S = true ∧ ofC (n : Int) S = cOf n S := by
  have hb : ofB (n : Int) S = true := by
    unfold ofB
    rw [h]
    simp
    omega
  exact ⟨hb, by unfold ofC; rw [if_pos hb]; rfl⟩
theorem cOf_valid {n : Nat} {S : List Ent} (h1 : 1 ≤ n) (h2 : n ≤ 32) (hS : S.length ≤ 1000000) : validC (cOf n S) = true := by
  have := count_valid h1 h2 S hS S.length (Nat.le_refl _)
  rw [List.take_length] at this
  exact this
theorem cOf_getD {n : Nat} {S : List Ent} (h : inZ (n : Int) S = true) {i : Nat} (hi : i < n) : (cOf n S).live.getD i 0 = (zc (i : Int) S : Int) := by
  show (countL (List.replicate n 0) S).getD i 0 = _
  rw [count_getD _ _ _ (by simpa using hi) (fun e he => (in_pos h e he).1), List.getD_eq_getElem?_getD, List.getElem?_replicate, if_pos hi]
  simp
theorem cOf_len (n : Nat) (S : List Ent) : (cOf n S).live.length = n := by
  show (countL _ S).length = n
  rw [count_len, List.length_replicate]
theorem cOf_same {n : Nat} {S T : List Ent} (hS : inZ (n : Int) S = true) (hT : inZ (n : Int) T = true) (h : ∀ i : Nat, i < n → zc (i : Int) S = zc (i : Int) T) : cOf n S = cOf n T := by
  have h2 : (cOf n S).live = (cOf n T).live := list_eq (by rw [cOf_len, cOf_len]) fun i hi => by
    rw [cOf_len] at hi
    rw [cOf_getD hS hi, cOf_getD hT hi, h i hi]
  show (⟨(cOf n S).live, List.replicate n 0⟩ : Cnt) = ⟨(cOf n T).live, List.replicate n 0⟩
  rw [h2]
theorem change_of {n : Nat} {S T : List Ent} {o f : Int} {had is : Bool} (h1 : 1 ≤ n) (h2 : n ≤ 32) (hS : inZ (n : Int) S = true) (hT : inZ (n : Int) T = true) (lS : S.length ≤ 1000000) (lT : T.length ≤ 1000000)
    (ho : had = true → 0 ≤ o ∧ o < (n : Int)) (hf : is = true → 0 ≤ f ∧ f < (n : Int))
    (hc : ∀ i : Nat, i < n → (zc (i : Int) T : Int) = (zc (i : Int) S : Int) - (if had = true ∧ o = (i : Int) then 1 else 0) + (if is = true ∧ f = (i : Int) then 1 else 0)) :
    changeC (cOf n S) o f had is = cOf n T ∧ changeB (cOf n S) o f had is = true := by
  have hv := cOf_valid h1 h2 lS
  have hll : (less (cOf n S) o had).length = n := by
    unfold less
    split
    · rw [plus_len, cOf_len]
    · exact cOf_len n S
  have hml : (more (less (cOf n S) o had) f is).length = n := by
    unfold more
    split
    · rw [plus_len, hll]
    · exact hll
  have hch : changedC (cOf n S) o f had is = cOf n T := by
    have h3 : more (less (cOf n S) o had) f is = (cOf n T).live := list_eq (by rw [hml, cOf_len]) fun i hi => by
      rw [hml] at hi
      have e1 : (less (cOf n S) o had).getD i 0 = (zc (i : Int) S : Int) - (if had = true ∧ o = (i : Int) then 1 else 0) := by
        unfold less
        cases had with
        | false => simp only [Bool.false_eq_true, if_false, false_and]; rw [cOf_getD hS hi]; omega
        | true =>
          have := ho rfl
          simp only [if_true, true_and]
          rw [plus_getD _ _ _ (by rw [cOf_len]; exact hi), cOf_getD hS hi]
          by_cases h : o = (i : Int)
          · rw [if_pos (by omega), if_pos h]; omega
          · rw [if_neg (by omega), if_neg h]; omega
      have e2 : (more (less (cOf n S) o had) f is).getD i 0 = (less (cOf n S) o had).getD i 0 + (if is = true ∧ f = (i : Int) then 1 else 0) := by
        unfold more
        cases is with
        | false => simp
        | true =>
          have := hf rfl
          simp only [if_true, true_and]
          rw [plus_getD _ _ _ (by rw [hll]; exact hi)]
          by_cases h : f = (i : Int)
          · rw [if_pos (by omega), if_pos h]
          · rw [if_neg (by omega), if_neg h]
      rw [e2, e1, cOf_getD hT hi, hc i hi]
    show (⟨more (less (cOf n S) o had) f is, List.replicate n 0⟩ : Cnt) = ⟨(cOf n T).live, List.replicate n 0⟩
    rw [h3]
  have hB : changeB (cOf n S) o f had is = true := by
    unfold changeB asksC
    rw [hch, cOf_valid h1 h2 lT, hv]
    have a1 : (!had || hasC (cOf n S) o) = true := by
      cases had with
      | false => rfl
      | true =>
        have := ho rfl
        simp only [Bool.not_true, Bool.false_or]
        exact has_c.2 ⟨hv, this.1, by rw [cOf_len]; exact this.2⟩
    have a2 : (!is || hasC (cOf n S) f) = true := by
      cases is with
      | false => rfl
      | true =>
        have := hf rfl
        simp only [Bool.not_true, Bool.false_or]
        exact has_c.2 ⟨hv, this.1, by rw [cOf_len]; exact this.2⟩
    rw [a1, a2]
    rfl
  exact ⟨by unfold changeC; rw [if_pos hB, hch], hB⟩
theorem asc_tail {x : Ent} {L : List Ent} (h : Asc (x :: L)) : Asc L ∧ ∀ y ∈ L, x.block < y.block := by
  have := List.pairwise_cons.1 h
  exact ⟨this.2, this.1⟩
theorem zc_ins (i : Int) (e : Ent) : ∀ (L : List Ent), Asc L → zc i (ins L e) + (match lookE L e.block with | some y => if y.zone = i then 1 else 0 | none => 0) = zc i L + if e.zone = i then 1 else 0
  | [], _ => by simp [ins, lookE, zc_cons, zc_nil]
  | x :: L, h => by
    obtain ⟨hA, hlt⟩ := asc_tail h
    have ih := zc_ins i e L hA
    rw [look_cons]
    unfold ins
    by_cases h1 : x.block < e.block
    · rw [if_pos h1, if_neg (by omega), zc_cons, zc_cons]
      omega
    · rw [if_neg h1]
      by_cases h2 : x.block = e.block
      · rw [if_pos h2, if_pos h2, zc_cons, zc_cons]
        simp only
        omega
      · rw [if_neg h2, if_neg h2, zc_cons, look_none (fun y hy => by have := hlt y hy; omega)]
        rfl
/-- an install that is newer -/
theorem follow_install {n : Nat} {S : List Ent} {x : Ent} (h1 : 1 ≤ n) (h2 : n ≤ 32) (hv : validB S = true) (hS : inZ (n : Int) S = true) (lS : S.length ≤ 999999) (hn : newer S x = true) (hx : 0 ≤ x.zone ∧ x.zone < (n : Int)) :
    changeC (cOf n S) (installE S x).zone x.zone (decide ((installE S x).kind ≠ 0)) true = cOf n (installL S x) ∧ changeB (cOf n S) (installE S x).zone x.zone (decide ((installE S x).kind ≠ 0)) true = true ∧ inZ (n : Int) (installL S x) = true := by
  have hA := (valid_iff.1 hv).2
  have he : installE S x = (lookE S x.block).getD zeroE := if_pos ⟨hv, newer_ok hn⟩
  have hi : installL S x = ins S x := by rw [install_eq hv, if_pos hn]
  have hI : inZ (n : Int) (ins S x) = true := in_of fun e h => by
    rcases mem_ins h with rfl | h
    · exact hx
    · exact in_pos hS e h
  rw [he, hi]
  have hz := fun i : Nat => zc_ins (i : Int) x S hA
  have hlen := ins_length S x
  cases hl : lookE S x.block with
  | none =>
    simp only [hl] at hz
    have := change_of (o := zeroE.zone) (f := x.zone) (had := false) (is := true) h1 h2 hS hI (by omega) (by omega) (fun h => by cases h) (fun _ => hx) (fun i _ => by
      have := hz i
      simp only [Bool.false_eq_true, false_and, if_false, true_and]
      split <;> rename_i h <;> simp only [h, if_true, if_false] at this <;> omega)
    exact ⟨this.1, this.2, hI⟩
  | some y =>
    simp only [hl] at hz
    have hy := look_mem hl
    have hok := (valid_iff.1 hv).1 y hy
    have hk : y.kind ≠ 0 := by
      unfold okE at hok
      simp only [Bool.and_eq_true, Bool.or_eq_true, decide_eq_true_eq] at hok
      omega
    have := change_of (o := y.zone) (f := x.zone) (had := true) (is := true) h1 h2 hS hI (by omega) (by omega) (fun _ => in_pos hS y hy) (fun _ => hx) (fun i _ => by
      have := hz i
      simp only [true_and]
      split <;> rename_i ha <;> split <;> rename_i hb <;> simp only [ha, hb, if_true, if_false] at this <;> omega)
    simp only [Option.getD_some]
    rw [decide_eq_true hk]
    exact ⟨this.1, this.2, hI⟩
theorem zc_filter (i : Int) (p : Ent → Bool) (S : List Ent) : zc i (S.filter fun e => !p e) + zc i (S.filter p) = zc i S := by
  induction S with
  | nil => rfl
  | cons e S ih =>
    rw [List.filter_cons, List.filter_cons]
    cases p e <;> simp [zc_cons] <;> omega
theorem in_filter {n : Int} (p : Ent → Bool) {S : List Ent} (h : inZ n S = true) : inZ n (S.filter p) = true := List.all_eq_true.2 fun e he => List.all_eq_true.1 h e (List.mem_filter.1 he).1
theorem in_append {n : Int} {S T : List Ent} (h : inZ n S = true) (k : inZ n T = true) : inZ n (S ++ T) = true := by unfold inZ at *; rw [List.all_append, h, k]; rfl
theorem in_drop {n : Int} {S : List Ent} (h : inZ n S = true) (k : Nat) : inZ n (S.drop k) = true := List.all_eq_true.2 fun e he => List.all_eq_true.1 h e (List.mem_of_mem_drop he)
/-- what is left while a drop is told, one entry after the other -/
def left (S : List Ent) (cut : Int) (k : Nat) : List Ent := stayL S cut ++ (goneL S cut).drop k
theorem follow_first {n : Nat} {S : List Ent} {cut : Int} (hv : validB S = true) (hS : inZ (n : Int) S = true) : cOf n S = cOf n (left S cut 0) ∧ inZ (n : Int) (stayL S cut) = true := by
  have h1 : inZ (n : Int) (stayL S cut) = true := by rw [stay_eq hv]; exact in_filter _ hS
  have h2 : inZ (n : Int) (goneL S cut) = true := by rw [gone_eq hv]; exact in_filter _ hS
  refine ⟨cOf_same hS (in_append h1 (in_drop h2 0)) fun i _ => ?_, h1⟩
  unfold left
  rw [List.drop_zero, zc_append, stay_eq hv, gone_eq hv, zc_filter]
theorem follow_drop {n : Nat} {S : List Ent} {cut : Int} {k : Nat} {e : Ent} (h1 : 1 ≤ n) (h2 : n ≤ 32) (hv : validB S = true) (hS : inZ (n : Int) S = true) (lS : S.length ≤ 999999) (he : (goneL S cut)[k]? = some e) (f : Int) :
    changeC (cOf n (left S cut k)) e.zone f true false = cOf n (left S cut (k + 1)) ∧ changeB (cOf n (left S cut k)) e.zone f true false = true := by
  have g1 : inZ (n : Int) (stayL S cut) = true := by rw [stay_eq hv]; exact in_filter _ hS
  have g2 : inZ (n : Int) (goneL S cut) = true := by rw [gone_eq hv]; exact in_filter _ hS
  have hl := stay_gone (c := cut) hv
  have hd : (goneL S cut).drop k = e :: (goneL S cut).drop (k + 1) := by
    obtain ⟨hk, rfl⟩ := List.getElem?_eq_some_iff.1 he
    exact List.drop_eq_getElem_cons hk
  refine change_of h1 h2 (in_append g1 (in_drop g2 _)) (in_append g1 (in_drop g2 _)) ?_ ?_ (fun _ => in_pos g2 e (List.mem_of_getElem? he)) (fun h => by cases h) fun i _ => ?_
  · unfold left
    rw [List.length_append, List.length_drop]
    omega
  · unfold left
    rw [List.length_append, List.length_drop]
    omega
  · unfold left
    rw [zc_append, zc_append, hd, zc_cons]
    simp only [Bool.false_eq_true, false_and, if_false, true_and]
    split <;> omega
theorem follow_last {n : Nat} {S : List Ent} {cut : Int} : cOf n (left S cut (goneL S cut).length) = cOf n (stayL S cut) := by
  unfold left
  rw [List.drop_length, List.append_nil]
theorem follow_new : newC 4 = cOf 4 [] ∧ newCE 4 = 0 := by decide
end Go.Proofs.Ytbfoagfemgogkaa.CntMath

/- The walk of the law's entry: an entry that is made of numbers, for any dice. -/
namespace Go.Proofs.Ytbfoagfemgogkaa.Ents
open Go.RowKit Plan EntMath
/-- the entry that is made -/
def mkK (zs : List Int) (k : Nat) : Int := if nxt zs (stp zs (stp zs (stp zs (stp zs (stp zs k))))) 3 = 2 then 2 else 1
def mkE (zs : List Int) (k : Nat) : Ent := ⟨nxt zs k 5, mkK zs k, 1 + nxt zs (stp zs k) 12, nxt zs (stp zs (stp zs k)) 3, nxt zs (stp zs (stp zs (stp zs k))) 4, nxt zs (stp zs (stp zs (stp zs (stp zs k)))) 4⟩
def stp6 (zs : List Int) (k : Nat) : Nat := stp zs (stp zs (stp zs (stp zs (stp zs (stp zs k)))))
theorem mk_ok (zs : List Int) (k : Nat) : okE (mkE zs k) = true ∧ 0 ≤ (mkE zs k).block ∧ (mkE zs k).block ≤ 4 ∧ (mkE zs k).version ≤ 12 ∧ (mkE zs k).move ≤ 2 := by
  have h1 := nxt_range zs k 5 (by decide)
  have h2 := nxt_range zs (stp zs k) 12 (by decide)
  have h3 := nxt_range zs (stp zs (stp zs k)) 3 (by decide)
  have h4 := nxt_range zs (stp zs (stp zs (stp zs k))) 4 (by decide)
  have h5 := nxt_range zs (stp zs (stp zs (stp zs (stp zs k)))) 4 (by decide)
  have hk : mkK zs k = 1 ∨ mkK zs k = 2 := by
    unfold mkK
    split
    · exact .inr rfl
    · exact .inl rfl
  refine ⟨ok_iff.2 ?_, ?_⟩
  · unfold mkE
    simp only
    refine ⟨hk, ?_⟩
    omega
  · unfold mkE
    simp only
    omega
theorem ent_dice_alloc {w : World} {base g : Nat} {zs : List Int} {k : Nat} (h : Dice w base g zs k) (o : Obj) : Dice (w.alloc o) base g zs k := dice_on h ((Below.refl _ _).alloc (Nat.le_refl _) o) (Nat.le_refl _)
theorem ent_row_grown {a b : World} {g x : Nat} {o : Obj} (h : a.grownBy b (some g)) (hx : a.heap[x]? = some o) (hne : x ≠ g) : b.heap[x]? = some o :=
  (h.block x (Array.getElem?_eq_some_iff.1 hx).1 (fun e => hne (Option.some.inj e))).trans hx
theorem ent_grown_row {a b : World} {r : Option Nat} (h : a.grownBy b r) {x : Nat} (hx : a.heap.size ≤ x) (cs : Array Value) : a.grownBy (b.setRow x cs) r :=
  ⟨h.os, h.tape, h.output, Nat.le_trans h.size (Nat.le_of_eq (by simp [World.setRow])), fun i hi hr => (setRow_other b x i cs (by omega)).trans (h.block i hi hr)⟩
theorem ent_alloc {a b : World} {r : Option Nat} (h : a.grownBy b r) (o : Obj) : a.grownBy (b.alloc o) r :=
  ⟨h.os, h.tape, h.output, Nat.le_trans h.size (by simp), fun i hi hr => (Below.heap_alloc _ _ _ (Nat.lt_of_lt_of_le hi h.size)).trans (h.block i hi hr)⟩
def EntryPost (w : World) (base g : Nat) (zs : List Int) (k : Nat) (r : Ending) (w' : World) : Prop :=
  r = .returned (entV (mkE zs k)) ∧ Dice w' base g zs (stp6 zs k) ∧ w.grownBy w' (some g)
end Go.Proofs.Ytbfoagfemgogkaa.Ents

/- The walk of LiveFollows, under the program's contracts. -/
namespace Go.Proofs.Ytbfoagfemgogkaa.Ents
open Go.RowKit Plan EntMath CntMath
theorem two_ways (b : Bool) : b = true ∨ b = false := by cases b <;> simp
theorem fol_bne (k : Int) : ∃ hd : Bool, (k != 0) = hd ∧ decide (k ≠ 0) = hd := ⟨k != 0, rfl, by by_cases h : k = 0 <;> simp [h]⟩
theorem fol_ok {N1 N2 N3 N4 : Int} (h1 : 0 ≤ N1) (h2 : 0 ≤ N2 ∧ N2 < 2) (h3 : 0 ≤ N3 ∧ N3 < 20) (h4 : 0 ≤ N4) : okE ⟨N1, 1 + N2, 1 + N3, 0, N4, 0⟩ = true := by
  unfold okE
  simp only [Bool.and_eq_true, Bool.or_eq_true, decide_eq_true_eq]
  omega
theorem fol_grown {F : Nat → Prop} {w w' : World} {g : Nat} (h : w.grownBy w' (some g)) (hF : ¬ F g) : Same F w w' :=
  ⟨h.size, fun b hb hl => h.block b hl (fun e => hF (by cases e; exact hb))⟩
theorem fol_row (W : World) (r : Nat) (cs : Array Value) : W.grownBy (W.setRow r cs) (some r) :=
  ⟨rfl, rfl, rfl, Nat.le_of_eq (by simp [World.setRow]), fun i _ hne => setRow_other W r i cs (fun e => hne (by rw [e]))⟩
theorem fol_below {a b c : World} {B g : Nat} (h : Below B a b) (hg : b.grownBy c (some g)) (hB : B ≤ g) (hs : B ≤ b.heap.size) : Below B a c :=
  h.trans ⟨hg.os, hg.tape, hg.output, hg.size, fun i hi => hg.block i (Nat.lt_of_lt_of_le hi hs) (fun e => by cases e; omega)⟩
theorem fol_plus {W : World} {X g b : Nat} (hX : X < W.heap.size) (hg : g < W.heap.size) (h : Plus (fun b => (b ≠ X ∧ b ≠ g) ∧ b < W.heap.size) W.heap.size b) : b ≠ X ∧ b ≠ g := by
  rcases h with h | h
  · exact h.1
  · exact ⟨by omega, by omega⟩
section
variable {W W0 W' : World} {X base g : Nat} {L : List Int} {k k' : Nat} {a a' : Option Addr} {n d n' d' : Nat} {S S' : List Ent} {x x2 y y2 : Option Addr} {c c2 e e2 : Nat} {C C' : Cnt}
end
end Go.Proofs.Ytbfoagfemgogkaa.Ents

/- The walk of EpochSteps, under the program's contracts. -/
namespace Go.Proofs.Ytbfoagfemgogkaa.Ents
open Go.RowKit Plan EntMath CntMath EpoMath Rws
theorem isRow_on {k : IntKind} {w W : World} {a : Option Addr} {l c : Nat} {zs : List Int} (h : IsRow k w a l c zs) (hb : Below w.heap.size w W) : IsRow k W a l c zs := by
  rcases h with h | ⟨x, h1, h2, h3, h4, h5, h6⟩
  · exact .inl h
  · exact .inr ⟨x, h1, h2, h3, h4, fun i hi => (hb.cell (p := x.add i) (World.block_lt_of_cell? w _ (h5 i hi))).trans (h5 i hi), h6⟩
theorem do_len (E : Epo) (k s z : Int) : (doE E k s z).pins.length = E.pins.length ∧ (doE E k s z).zones.length ≤ E.zones.length + 1 := by
  have h1 : (pinE E s).pins.length = E.pins.length ∧ (pinE E s).zones.length ≤ E.zones.length + 1 := by
    unfold pinE; split <;> simp [pinned]
  have h2 : (unpinE E s).pins.length = E.pins.length ∧ (unpinE E s).zones.length ≤ E.zones.length + 1 := by
    unfold unpinE; split <;> simp [pinned]
  have h3 : (retireE E z).pins.length = E.pins.length ∧ (retireE E z).zones.length ≤ E.zones.length + 1 := by
    unfold retireE; split <;> simp
  have h4 : (forgetE E (readyZ E)).pins.length = E.pins.length ∧ (forgetE E (readyZ E)).zones.length ≤ E.zones.length + 1 := by
    unfold forgetE
    split
    · exact ⟨rfl, Nat.le_trans (List.length_filter_le _ _) (Nat.le_succ _)⟩
    · exact ⟨rfl, Nat.le_succ _⟩
  have h5 : (advE E).pins.length = E.pins.length ∧ (advE E).zones.length ≤ E.zones.length + 1 := by
    unfold advE; split <;> simp
  unfold doE
  split
  · exact h1
  · split
    · exact h2
    · split
      · exact h3
      · split
        · split
          · exact h4
          · exact ⟨rfl, Nat.le_succ _⟩
        · exact h5
theorem dice_row {W : World} {base q X : Nat} {L : List Int} {k : Nat} (h : Dice W base q L k) (hX : X < base ∨ q < X) (cs : Array Value) : Dice (W.setRow X cs) base q L k := by
  have hg := fol_row W X cs
  rcases hX with hX | hX
  · have hlt := dice_lt h
    obtain ⟨v, hr, hown, hne, hbase⟩ := h
    refine ⟨v, (hg.block q hlt (fun e => by have := Option.some.inj e; omega)).trans hr, hown.kept hg (.inr fun e => ?_), hne, hbase⟩
    have := (hown.lt X e).1
    omega
  · exact dice_far h hg hX
/-- a box of epochs beside dice -/
structure EDie (w W : World) (X base q : Nat) (L : List Int) (k : Nat) (g : Int) (a b : Option Addr) (n c m d : Nat) (E : Epo) : Prop where
  hX : W.heap[X]? = some (epoRow g a n c b m d)
  ll : PList W (fun b => b ≠ X ∧ b ≠ q) g a n c b m d E
  dd : Dice W base q L k
  hb : Below w.heap.size w W
  hh : w.heap.size ≤ X ∧ w.heap.size ≤ base ∧ (X < base ∨ q < X)
section
variable {w W W' : World} {X base q : Nat} {L : List Int} {k k' : Nat} {g g' : Int} {a b a' b' : Option Addr} {n c m d n' c' m' d' : Nat} {E E' : Epo}
theorem EDie.on (K : EDie w W X base q L k g a b n c m d E) (h : Below W.heap.size W W') : EDie w W' X base q L k g a b n c m d E := ⟨e_on h K.hX (e_lt K.hX), K.ll.on (Same.below h), dice_on K.dd h (Nat.le_refl _), K.hb.trans (h.mono K.hb.size), K.hh⟩
theorem EDie.drew (K : EDie w W X base q L k g a b n c m d E) : EDie w W.drew X base q L k g a b n c m d E := K.on (Below.refl _ _).drew
theorem EDie.ne (K : EDie w W X base q L k g a b n c m d E) : X ≠ q := by
  have := K.hh
  have := dice_base K.dd
  omega
theorem EDie.next (K : EDie w W X base q L k g a b n c m d E) (hd : Dice W' base q L k') (hw : W.grownBy W' (some q)) : EDie w W' X base q L k' g a b n c m d E :=
  ⟨(hw.block _ (e_lt K.hX) (fun e => K.ne (Option.some.inj e))).trans K.hX, K.ll.on ⟨hw.size, fun b hb hlt => hw.block b hlt (fun e => hb.2 (Option.some.inj e))⟩, hd, K.hb.grown hw K.hb.size (fun z hz => by have := Option.some.inj hz; have := dice_base K.dd; have := K.hh; omega), K.hh⟩
theorem EDie.put (K : EDie w W X base q L k g a b n c m d E) (l : PList W (fun b => b ≠ X ∧ b ≠ q) g' a' n' c' b' m' d' E') : EDie w (W.setRow X #[.int .i64 g', .slice a' n' c', .slice b' m' d']) X base q L k g' a' b' n' c' m' d' E' :=
  ⟨setRow_heap _ _ _ _ _ _ K.hX, l.on (Same.row (fun h => h.1 rfl) _), dice_row K.dd K.hh.2.2 _, below_setRow K.hb K.hh.1 _, K.hh⟩
theorem EDie.res (K : EDie w W X base q L k g a b n c m d E) (l : PList W' (Plus (fun b => (b ≠ X ∧ b ≠ q) ∧ b < W.heap.size) W.heap.size) g' a' n' c' b' m' d' E') : PList W' (fun b => b ≠ X ∧ b ≠ q) g' a' n' c' b' m' d' E' :=
  l.mono fun b _ h => by
    have h1 := e_lt K.hX
    have h2 := dice_lt K.dd
    rcases h with h | h
    · exact h.1
    · exact ⟨by omega, by omega⟩
theorem EDie.rows (K : EDie w W X base q L k g a b n c m d E) : W.cell? ⟨X, 0, none⟩ = some (.int .i64 g) ∧ W.cell? ⟨X, 1, none⟩ = some (.slice a n c) ∧ W.cell? ⟨X, 2, none⟩ = some (.slice b m d) := three_row K.hX
end
/-- dice rolled behind a box -/
theorem EDie.roll {w W W' : World} {X q : Nat} {L : List Int} {k : Nat} {g : Int} {a b : Option Addr} {n c m d : Nat} {E : Epo} (K : EBox w W X g a b n c m d E) (hd : Dice W' W.heap.size q L k) (h : Below W.heap.size W W') : EDie w W' X W.heap.size q L k g a b n c m d E := by
  have h1 := e_lt K.hX
  have h2 := dice_base hd
  have h3 := K.hh
  exact ⟨e_on h K.hX h1, (K.ll.cut.on (Same.below h)).mono (fun b _ hb => ⟨hb.1, by have := hb.2; omega⟩), hd, K.hb.trans (h.mono K.hb.size), by omega, by omega, .inl h1⟩
theorem stp_le (zs : List Int) (k : Nat) : stp zs k ≤ k + 1 := by unfold stp; split <;> omega
theorem new_ok {s : Int} : (newEE s = 0 ∧ 1 ≤ s ∧ s ≤ 4 ∧ newE s = ⟨0, List.replicate s.toNat (-1), []⟩) ∨ (newEE s = 1 ∧ newE s = ⟨0, [], []⟩) := by
  by_cases h : 1 ≤ s ∧ s ≤ 4
  · exact .inl ⟨if_pos h, h.1, h.2, if_pos h⟩
  · exact .inr ⟨if_neg h, if_neg h⟩
set_option maxHeartbeats 16000000 in
set_option maxRecDepth 20000 in
theorem epoSteps_any (H : EpochOk) (s : Int) (a : Option Addr) (l c : Nat) (zs : List Int) (w : World) (hl : IsRow .i64 w a l c zs) :
    Calls Try.prog 4 #[.int .i64 s, .slice a l c] w fun r w' => r = .returned (.bool true) ∧ Below w.heap.size w w' := by
  have HW := Lib.hid (fun W => epoAwake_any H W)
  have HLT := Lib.hid (fun W => light_any a l c W)
  have hb := Below.refl w.heap.size w
  by_cases hm : (l : Int) ≤ 300
  · rw [decide_eq_true hm] at HLT
    have HRL := Lib.hid (fun W (h : Below w.heap.size w W) => roll_any a l c zs W (isRow_on hl h) (by omega))
    unfold RollPost at HRL
    have HLL := Lib.hid (show (zs.take l).length ≤ 100000 from by rw [List.length_take]; omega)
    generalize zs.take l = LL at *
    have n1 := fun W => H.new s W
    have n2 := fun W => refENew_any s W
    unfold ENewPost at n1 n2
    have hno := @new_ok s
    generalize newE s = E0 at *
    generalize newEE s = EE at *
    have N1 := Lib.hid n1
    have N2 := Lib.hid n2
    clear n1 n2 hm hl
    rcases hno with ⟨rfl, hs1, hs2, hE⟩ | ⟨rfl, hE⟩
    · have hpl : E0.pins.length ≤ 4 := by rw [hE, List.length_replicate]; omega
      have hzl : E0.zones.length = 0 := by rw [hE]; rfl
      have hws : wrap64 (s + 1) = s + 1 := by unfold wrap64; omega
      have hws2 : IntKind.i64.wrap (s + 1) = s + 1 := IntWalk.i64_in _ (by omega)
      clear hE
      go_enter Try.func4, Try.ntmps4
      go_wp2_with (first
        | (go_at_call 9; ((with_reducible refine (HLT.out _).mono ?_); rintro r9 w4 ⟨rfl, rfl⟩))
        | (go_at_call 10; ((with_reducible refine (N1.out _).mono ?_); rintro r9 w5 ⟨xg, xa, xn, xc, xb, xm, xd, rfl, lx, hb⟩; have lx1 := (lx.cut.on (Same.alloc w5 (epoRow xg xa xn xc xb xm xd))); have hb1 := hb.alloc hb.size (epoRow xg xa xn xc xb xm xd); have hX := heap_alloc_new w5 (epoRow xg xa xn xc xb xm xd); clear lx hb N1))
        | (go_at_call 11; ((with_reducible refine (N2.out _).mono ?_); rintro r9 w6 ⟨yg, ya, yn, yc, yb, ym, yd, rfl, ly, h9⟩; have K : EBox w (w6.alloc (epoRow yg ya yn yc yb ym yd)) w6.heap.size yg ya yb yn yc ym yd E0 := ⟨heap_alloc_new _ _, (ly.cut.on (Same.alloc _ _)).mono fun b _ h => by have := h.2; omega, (hb1.trans (h9.mono hb1.size)).alloc (hb1.trans (h9.mono hb1.size)).size _, (hb1.trans (h9.mono hb1.size)).size⟩; have lx2 := (lx1.on (Same.below h9)).on (Same.alloc w6 (epoRow yg ya yn yc yb ym yd)); have hX1 := e_al (e_on h9 hX (e_lt hX)) (epoRow yg ya yn yc yb ym yd); clear N2 h9 ly hb1 lx1 hX; obtain ⟨c0, c1, c2⟩ := three_row hX1; obtain ⟨d0, d1, d2⟩ := K.rows))
        | ((with_reducible refine load_lit_gc 25 (.tmp 5) (w5.heap.size) ?_ ?_ hX1 Try.underlying25 ?_ ?_ ?_); (· rfl); (· rfl); (· rfl); (· exact epo_info); simp only [Act.put, List.setIfInBounds_toArray, List.set_cons_zero, List.set_cons_succ])
        | ((with_reducible refine load_lit_gc 25 (.tmp 7) (w6.heap.size) ?_ ?_ K.hX Try.underlying25 ?_ ?_ ?_); (· rfl); (· rfl); (· rfl); (· exact epo_info); simp only [Act.put, List.setIfInBounds_toArray, List.set_cons_zero, List.set_cons_succ])
        | (go_at_call 12; ((with_reducible refine (refESame_any _ _ _ _ _ _ _ _ _ _ _ _ _ _ _ _ _ _ lx2 K.ll).mono ?_); rintro r9 w7 ⟨rfl, h9⟩; have K9 := K.on h9; clear K h9 lx2 hX1 c0 c1 c2 d0 d1 d2; have K := K9; clear K9))
        | (go_at_call 13; ((with_reducible refine (HRL.out _ K.hb).mono ?_); rintro r9 w8 ⟨q, rfl, hd, h9⟩; have D := EDie.roll K hd h9; clear K hd h9 HRL)))
      have hym : ym = 0 := D.ll.z.length.symm.trans hzl
      have hyn : yn ≤ 4 := by have := D.ll.p.length; omega
      generalize w6.heap.size = X at *
      generalize w7.heap.size = base at *
      clear hpl hzl
      go_loopw [10] (fun x wr => ∃ (i k : Nat) (E : Epo) (g : Int) (a b : Option Addr) (c m d : Nat), x = .int .i64 (i : Int) ∧ i ≤ 60 ∧ k ≤ 3 * i ∧ m ≤ i ∧ EDie w wr X base q LL k g a b yn c m d E) (fun x _ => 60 - (intOf x).toNat)
      case atStart => exact ⟨0, 0, E0, _, _, _, _, _, _, rfl, by omega, by omega, by omega, D⟩
      case round =>
        clear D hym
        obtain ⟨i, k, E, g, a, b, c, m, d, rfl, hi, hk, hmi, D⟩ := hrel
        by_cases hlt : i < 60
        · have hiI : (i : Int) < 60 := by omega
          by_cases hrs : 0 < (LL.length : Int) - (k : Int)
          · have t1 : decide (0 < max 0 ((LL.length : Int) - (k : Int))) = true := by simp; omega
            have t2 : max 0 ((LL.length : Int) - (k : Int)) = (LL.length : Int) - (k : Int) := by omega
            have hE1 := D.ll.p.length
            have hE2 := D.ll.z.length
            go_wp2_with (first
              | (go_at_call 14; ((with_reducible refine (rest_dice _ _ _ _ _ D.dd HLL.out (by omega)).mono ?_); rintro r9 w9 ⟨rfl, rfl⟩; have D9 := D.drew; clear D; have D := D9; clear D9))
              | (go_at_call 15; ((with_reducible refine (next_any _ _ _ _ _ (7) D.dd HLL.out (by omega) (by omega)).mono ?_); rintro r9 w9 ⟨rfl, hd, hgr, hsz⟩; have D9 := D.next hd hgr; clear D hd hgr hsz; have D := D9; clear D9; generalize nxt LL _ (7) = k7 at *))
              | (go_at_call 15; ((with_reducible refine (next_any _ _ _ _ _ (s + 1) D.dd HLL.out (by omega) (by omega)).mono ?_); rintro r9 w9 ⟨rfl, hd, hgr, hsz⟩; have D9 := D.next hd hgr; clear D hd hgr hsz; have D := D9; clear D9; generalize nxt LL _ (s + 1) = s7 at *))
              | (go_at_call 15; ((with_reducible refine (next_any _ _ _ _ _ (6) D.dd HLL.out (by omega) (by omega)).mono ?_); rintro r9 w9 ⟨rfl, hd, hgr, hsz⟩; have D9 := D.next hd hgr; clear D hd hgr hsz; have D := D9; clear D9; generalize nxt LL _ (6) = z7 at *))
              | ((with_reducible refine Plan.load_lit 25 (.tmp 7) (X) ?_ D.hX Try.underlying25 ?_ ?_ ?_); (· rfl); (· rfl); (· exact epo_info); simp only [Act.put, List.setIfInBounds_toArray, List.set_cons_zero, List.set_cons_succ])
              | ((with_reducible refine load_lit_gc 25 (.tmp 7) (X) ?_ ?_ D.hX Try.underlying25 ?_ ?_ ?_); (· rfl); (· rfl); (· rfl); (· exact epo_info); simp only [Act.put, List.setIfInBounds_toArray, List.set_cons_zero, List.set_cons_succ])
              | (go_at_call 7; ((with_reducible refine (epoAgree_any H _ E _ _ _ _ _ _ _ _ _ _ D.ll (by omega) (by omega)).mono ?_); rintro r9 w5 ⟨rfl, h9⟩; have D9 := D.on h9; clear D h9; have D := D9; clear D9))
              | (go_at_call 16; ((with_reducible refine (refReady_any _ E _ _ _ _ _ _ _ _ D.ll).mono ?_); rintro r9 w5 ⟨rfl, h9⟩; have D9 := D.on h9; clear D h9; have D := D9; clear D9; rcases Bool.eq_false_or_eq_true (readyB E) with hrb | hrb))
              | (go_at_call 17; ((with_reducible refine (do_any _ E _ _ _ _ _ _ _ _ _ _ _ D.ll.cut (by omega)).mono ?_); rintro r9 w6 ⟨xg, xa, xn, xc, xb, xm, xd, rfl, lx, h9⟩; have l5 := D.res lx; have D9 := D.on h9; clear D lx h9; have D := D9; clear D9))
              | ((with_reducible refine Plan.store_lit 25 (.tmp 7) _ X ?_ D.hX ?_ ?_ ?_ ?_ ?_ ?_); rotate_left; (· rfl); (· rfl); (· exact epo_info); (· rfl); (· simp [Value.oneCell']); simp only [Act.put]; have D9 := D.put l5; generalize w6.setRow X #[.int .i64 xg, .slice xa xn xc, .slice xb xm xd] = w6 at *; clear D l5; have D := D9; clear D9))
            all_goals
              have e1 := do_len E k7 s7 z7
              have e2 := D.ll.p.length
              have e3 := D.ll.z.length
              obtain rfl : xn = yn := by omega
              have e4 := stp_le LL k
              have e5 := stp_le LL (stp LL k)
              have e6 := stp_le LL (stp LL (stp LL k))
              go_roundw
              case rel => exact ⟨i + 1, _, _, _, _, _, _, _, _, by go_num, by omega, by omega, by omega, D⟩
              case measure => simp [intOf]; omega
          · have t1 : decide (0 < max 0 ((LL.length : Int) - (k : Int))) = false := by simp; omega
            have t2 : max 0 ((LL.length : Int) - (k : Int)) = 0 := by omega
            clear hws hws2
            go_wp2_with (first
              | (go_at_call 14; ((with_reducible refine (rest_dice _ _ _ _ _ D.dd HLL.out (by omega)).mono ?_); rintro r9 w9 ⟨rfl, rfl⟩; have D9 := D.drew; clear D; have D := D9; clear D9))
              | (go_at_call 8; ((with_reducible refine (HW.out _).mono ?_); rintro r9 w6 ⟨rfl, h9⟩; have D9 := D.on h9; clear D h9; have D := D9; clear D9)))
            go_ret
            exact ⟨rfl, D.hb⟩
        · obtain rfl : i = 60 := by omega
          have hiI : ¬ ((60 : Nat) : Int) < 60 := by omega
          go_wp2_with (first
            | (go_at_call 8; ((with_reducible refine (HW.out _).mono ?_); rintro r9 w6 ⟨rfl, h9⟩; have D9 := D.on h9; clear D h9; have D := D9; clear D9)))
          go_ret
          exact ⟨rfl, D.hb⟩
    · clear hE
      go_enter Try.func4, Try.ntmps4
      go_wp2_with (first
        | (go_at_call 9; ((with_reducible refine (HLT.out _).mono ?_); rintro r9 w4 ⟨rfl, rfl⟩))
        | (go_at_call 10; ((with_reducible refine (N1.out _).mono ?_); rintro r9 w5 ⟨xg, xa, xn, xc, xb, xm, xd, rfl, lx, hb⟩; have lx1 := (lx.cut.on (Same.alloc w5 (epoRow xg xa xn xc xb xm xd))); have hb1 := hb.alloc hb.size (epoRow xg xa xn xc xb xm xd); have hX := heap_alloc_new w5 (epoRow xg xa xn xc xb xm xd); clear lx hb N1))
        | (go_at_call 11; ((with_reducible refine (N2.out _).mono ?_); rintro r9 w6 ⟨yg, ya, yn, yc, yb, ym, yd, rfl, ly, h9⟩; have K : EBox w (w6.alloc (epoRow yg ya yn yc yb ym yd)) w6.heap.size yg ya yb yn yc ym yd E0 := ⟨heap_alloc_new _ _, (ly.cut.on (Same.alloc _ _)).mono fun b _ h => by have := h.2; omega, (hb1.trans (h9.mono hb1.size)).alloc (hb1.trans (h9.mono hb1.size)).size _, (hb1.trans (h9.mono hb1.size)).size⟩; have lx2 := (lx1.on (Same.below h9)).on (Same.alloc w6 (epoRow yg ya yn yc yb ym yd)); have hX1 := e_al (e_on h9 hX (e_lt hX)) (epoRow yg ya yn yc yb ym yd); clear N2 h9 ly hb1 lx1 hX; obtain ⟨c0, c1, c2⟩ := three_row hX1; obtain ⟨d0, d1, d2⟩ := K.rows))
        | ((with_reducible refine load_lit_gc 25 (.tmp 5) (w5.heap.size) ?_ ?_ hX1 Try.underlying25 ?_ ?_ ?_); (· rfl); (· rfl); (· rfl); (· exact epo_info); simp only [Act.put, List.setIfInBounds_toArray, List.set_cons_zero, List.set_cons_succ])
        | ((with_reducible refine load_lit_gc 25 (.tmp 7) (w6.heap.size) ?_ ?_ K.hX Try.underlying25 ?_ ?_ ?_); (· rfl); (· rfl); (· rfl); (· exact epo_info); simp only [Act.put, List.setIfInBounds_toArray, List.set_cons_zero, List.set_cons_succ])
        | (go_at_call 12; ((with_reducible refine (refESame_any _ _ _ _ _ _ _ _ _ _ _ _ _ _ _ _ _ _ lx2 K.ll).mono ?_); rintro r9 w7 ⟨rfl, h9⟩; have K9 := K.on h9; clear K h9 lx2 hX1 c0 c1 c2 d0 d1 d2; have K := K9; clear K9))
        | (go_at_call 13; ((with_reducible refine (HRL.out _ K.hb).mono ?_); rintro r9 w8 ⟨q, rfl, hd, h9⟩; have D := EDie.roll K hd h9; clear K hd h9 HRL)))
      generalize w6.heap.size = X at *
      generalize w7.heap.size = base at *
      go_loopw [10] (fun x wr => x = .int .i64 0 ∧ EDie w wr X base q LL 0 yg ya yb yn yc ym yd E0) (fun x _ => 0)
      case atStart => exact ⟨rfl, D⟩
      case round =>
        clear D
        obtain ⟨rfl, D⟩ := hrel
        by_cases hrs : 0 < (LL.length : Int) - ((0 : Nat) : Int)
        · have t1 : decide (0 < max 0 ((LL.length : Int) - ((0 : Nat) : Int))) = true := by simp; omega
          have t2 : max 0 ((LL.length : Int) - ((0 : Nat) : Int)) = (LL.length : Int) - ((0 : Nat) : Int) := by omega
          go_wp2_with (first
            | (go_at_call 14; ((with_reducible refine (rest_dice _ _ _ _ _ D.dd HLL.out (by omega)).mono ?_); rintro r9 w9 ⟨rfl, rfl⟩; have D9 := D.drew; clear D; have D := D9; clear D9))
            | (go_at_call 8; ((with_reducible refine (HW.out _).mono ?_); rintro r9 w6 ⟨rfl, h9⟩; have D9 := D.on h9; clear D h9; have D := D9; clear D9)))
          go_ret
          exact ⟨rfl, D.hb⟩
        · have t1 : decide (0 < max 0 ((LL.length : Int) - ((0 : Nat) : Int))) = false := by rw [show LL.length = 0 by omega]; decide
          have t2 : max 0 ((LL.length : Int) - ((0 : Nat) : Int)) = 0 := by omega
          go_wp2_with (first
            | (go_at_call 14; ((with_reducible refine (rest_dice _ _ _ _ _ D.dd HLL.out (by omega)).mono ?_); rintro r9 w9 ⟨rfl, rfl⟩; have D9 := D.drew; clear D; have D := D9; clear D9))
            | (go_at_call 8; ((with_reducible refine (HW.out _).mono ?_); rintro r9 w6 ⟨rfl, h9⟩; have D9 := D.on h9; clear D h9; have D := D9; clear D9)))
          go_ret
          exact ⟨rfl, D.hb⟩
  · rw [decide_eq_false hm] at HLT
    go_enter Try.func4, Try.ntmps4
    go_wp2_with (first
      | (go_at_call 9; ((with_reducible refine (HLT.out _).mono ?_); rintro r9 w4 ⟨rfl, rfl⟩))
      | (go_at_call 8; ((with_reducible refine (HW.out _).mono ?_); rintro r9 w6 ⟨rfl, h9⟩; have hb := hb.trans (h9.mono hb.size))))
    go_ret
    exact ⟨rfl, hb⟩
end Go.Proofs.Ytbfoagfemgogkaa.Ents

/- The walk of EpochGrace, under the program's contracts. -/
namespace Go.Proofs.Ytbfoagfemgogkaa.Ents
open Go.RowKit Plan EntMath CntMath EpoMath Rws
theorem few_do {E : Epo} {n i : Nat} (h : Few E n i) (k s z : Int) (hz : z ≤ 5) : Few (doE E k s z) n (i + 1) := by
  have hl := do_len E k s z
  have hzr : ∀ (E' : Epo), E'.zones = E.zones → ∀ r ∈ E'.zones, r.zone ≤ 5 := fun E' he r hr => h.z r (he ▸ hr)
  have hg := h.g
  refine ⟨?_, hl.1.trans h.l, ?_, Nat.le_trans hl.2 (Nat.succ_le_succ h.k), ?_⟩
  · unfold doE
    split
    · exact valid_pin h.v s
    · split
      · exact valid_unpin h.v s
      · split
        · exact valid_retire h.v z
        · split
          · split
            · exact valid_forget h.v _
            · exact h.v
          · exact valid_adv h.v
  · unfold doE
    split
    · exact hzr _ (by unfold pinE; split <;> rfl)
    · split
      · exact hzr _ (by unfold unpinE; split <;> rfl)
      · split
        · unfold retireE
          split
          · intro r hr
            rcases List.mem_append.1 hr with h5 | h5
            · exact h.z r h5
            · rw [List.mem_singleton.1 h5]; exact hz
          · exact h.z
        · split
          · split
            · unfold forgetE
              split
              · exact fun r hr => h.z r (List.mem_filter.1 hr).1
              · exact h.z
            · exact h.z
          · exact hzr _ (by unfold advE; split <;> rfl)
  · unfold doE
    split
    · rw [pin_glob]; omega
    · split
      · rw [unpin_glob]; omega
      · split
        · rw [retire_glob]; omega
        · split
          · split
            · rw [forget_glob]; omega
            · omega
          · rcases adv_glob E with h | h <;> omega
theorem nxt_le (zs : List Int) (k : Nat) {n : Int} (hn : 1 ≤ n) : 0 ≤ nxt zs k n ∧ nxt zs k n ≤ n - 1 := by
  unfold nxt
  split
  · have h1 := Int.emod_nonneg (zs.getD k 0) (show n ≠ 0 by omega)
    have h2 := Int.emod_lt_of_pos (zs.getD k 0) (show 0 < n by omega)
    omega
  · omega
theorem slot_is {B n s : Int} (h0 : 0 ≤ B) (hB : B ≤ 255) (h2 : 1 ≤ n - 1) (hn : n ≤ 4) (hs : 1 + (B / 4) % (n - 1) = s) : IntKind.i64.wrap (1 + (IntKind.i64.wrap (IntKind.u8.wrap (B.tdiv 4))).tmod (n - 1)) = s := by
  have h1 : B.tdiv 4 = B / 4 := Int.tdiv_eq_ediv_of_nonneg h0
  have h5 : 0 ≤ B / 4 := by omega
  have h6 := Int.emod_nonneg (B / 4) (show n - 1 ≠ 0 by omega)
  have h7 := Int.emod_lt_of_pos (B / 4) (show (0 : Int) < n - 1 by omega)
  have e1 : IntKind.u8.wrap (B / 4) = B / 4 := IntWalk.u8_in _ (by omega)
  have e2 : IntKind.i64.wrap (B / 4) = B / 4 := IntWalk.i64_in _ (by omega)
  rw [h1, e1, e2, Int.tmod_eq_emod_of_nonneg h5, IntWalk.i64_in _ (by omega)]
  exact hs
theorem byte_at2 {w : World} {a : Option Addr} {l c : Nat} {zs : List Int} (h : IsRow .u8 w a l c zs) {i : Nat} (hi : i < l) : ∃ x B, a = some x ∧ (∀ W, Below w.heap.size w W → W.cell? (x.add i) = some (.int .u8 B)) ∧ 0 ≤ B ∧ B ≤ 255 := by
  obtain ⟨x, B, hx, hc, h0, h1⟩ := byte_at h (Below.refl _ _) hi
  exact ⟨x, B, hx, fun W hb => (hb.cell (p := x.add i) (World.block_lt_of_cell? w _ hc)).trans hc, h0, h1⟩
theorem mod_slot {B : Int} {n : Nat} (h0 : 0 ≤ B) (h2 : 2 ≤ n) (h4 : n ≤ 4) : 1 ≤ 1 + (B.tdiv 4).tmod ((n : Int) - 1) ∧ 1 + (B.tdiv 4).tmod ((n : Int) - 1) ≤ 100 := by
  have h1 : 0 ≤ B.tdiv 4 := Int.tdiv_nonneg h0 (by decide)
  rw [Int.tmod_eq_emod_of_nonneg h1]
  have h5 := Int.emod_nonneg (B.tdiv 4) (show (n : Int) - 1 ≠ 0 by omega)
  have h6 := Int.emod_lt_of_pos (B.tdiv 4) (show (0 : Int) < (n : Int) - 1 by omega)
  omega
set_option maxHeartbeats 16000000 in
set_option maxRecDepth 20000 in
theorem epoGrace_any (H : EpochOk) (y : Int) (hy : 0 ≤ y ∧ y ≤ 255) (a : Option Addr) (l c : Nat) (zs : List Int) (a2 : Option Addr) (l2 c2 : Nat) (zs2 : List Int) (w : World) (hl : IsRow .i64 w a l c zs) (hl2 : IsRow .u8 w a2 l2 c2 zs2) :
    Calls Try.prog 5 #[.int .u8 y, .slice a l c, .slice a2 l2 c2] w fun r w' => r = .returned (.bool true) ∧ Below w.heap.size w w' := by
  have HW := Lib.hid (fun W => epoAwake_any H W)
  have HLT := Lib.hid (fun W => light_any a l c W)
  have hb := Below.refl w.heap.size w
  by_cases hm : (l : Int) ≤ 300
  · rw [decide_eq_true hm] at HLT
    by_cases hm2 : 60 < l2
    · have d1 : decide ((60 : Int) < (l2 : Int)) = true := by simp; omega
      have d2 : decide (60 < l2) = true := by simp; omega
      go_enter Try.func5, Try.ntmps5
      go_wp2_with (first
        | (go_at_call 9; ((with_reducible refine (HLT.out _).mono ?_); rintro r9 w4 ⟨rfl, rfl⟩))
        | (go_at_call 8; ((with_reducible refine (HW.out _).mono ?_); rintro r9 w6 ⟨rfl, h9⟩; have hb := hb.trans (h9.mono hb.size))))
      go_ret
      exact ⟨rfl, hb⟩
    · have d1 : decide ((60 : Int) < (l2 : Int)) = false := by simp; omega
      have d2 : decide (60 < l2) = false := by simp; omega
      have HRL := Lib.hid (fun W (h : Below w.heap.size w W) => roll_any a l c zs W (isRow_on hl h) (by omega))
      unfold RollPost at HRL
      have HLL := Lib.hid (show (zs.take l).length ≤ 100000 from by rw [List.length_take]; omega)
      generalize zs.take l = LL at *
      have HBY := Lib.hid (fun (i : Nat) (hi : i < l2) => byte_at2 hl2 hi)
      obtain ⟨T, e1⟩ : ∃ T, y.tmod 3 = T := ⟨_, rfl⟩
      have eT : 0 ≤ T ∧ T ≤ 2 := by rw [← e1, Int.tmod_eq_emod_of_nonneg hy.1]; omega
      obtain ⟨yn0, e2⟩ : ∃ n : Nat, 2 + T = (n : Int) := ⟨(2 + T).toNat, by omega⟩
      have hn1 : 2 ≤ yn0 := by omega
      have hn2 : yn0 ≤ 4 := by omega
      have n2 := fun W => refENew_any (yn0 : Int) W
      unfold ENewPost at n2
      rw [show newE (yn0 : Int) = ⟨0, List.replicate yn0 (-1), []⟩ from by unfold newE; rw [if_pos (by omega), Int.toNat_natCast], show newEE (yn0 : Int) = 0 from if_pos (by omega)] at n2
      have N2 := Lib.hid n2
      have F0 := few_new (n := yn0) (by omega) hn2
      generalize (⟨0, List.replicate yn0 (-1), []⟩ : Epo) = E0 at *
      clear n2 hm hl hl2
      go_enter Try.func5, Try.ntmps5
      go_wp2_with (first
        | (go_at_call 9; ((with_reducible refine (HLT.out _).mono ?_); rintro r9 w4 ⟨rfl, rfl⟩))
        | (go_at_call 11; ((with_reducible refine (N2.out _).mono ?_); rintro r9 w6 ⟨yg, ya, yn, yc, yb, ym, yd, rfl, ly, h9⟩; have K := EBox.start h9 ly; clear N2 h9 ly))
        | (go_at_call 13; ((with_reducible refine (HRL.out _ K.hb).mono ?_); rintro r9 w8 ⟨q, rfl, hd, h9⟩; have D := EDie.roll K hd h9; clear K hd h9 HRL)))
      have hyn := D.ll.p.length
      have hF0 := F0.l
      obtain rfl : yn = yn0 := by omega
      generalize w6.heap.size = X at *
      generalize (w6.alloc (epoRow yg ya yn yc yb ym yd)).heap.size = base at *
      have hnn : wrap64 ((yn : Int) - 1) = (yn : Int) - 1 := by unfold wrap64; omega
      have hnn2 : IntKind.i64.wrap ((yn : Int) - 1) = (yn : Int) - 1 := IntWalk.i64_in _ (by omega)
      clear hyn hF0
      go_loopw [11] (fun x wr => ∃ (i k : Nat) (E : Epo) (g : Int) (a b : Option Addr) (c m d : Nat), x = .int .i64 (i : Int) ∧ i ≤ 30 ∧ k ≤ 3 * i ∧ Few E yn i ∧ EDie w wr X base q LL k g a b yn c m d E) (fun x _ => 30 - (intOf x).toNat)
      case atStart => exact ⟨0, 0, E0, _, _, _, _, _, _, rfl, by omega, by omega, F0, D⟩
      case round =>
        clear D F0
        obtain ⟨i, k, E, g, a, b, c, m, d, rfl, hi, hk, F0, D⟩ := hrel
        have hFk := F0.k
        have hDz := D.ll.z.length
        by_cases hlt : i < 30
        · have hiI : (i : Int) < 30 := by omega
          by_cases hrs : 0 < (LL.length : Int) - (k : Int)
          · have t1 : decide (0 < max 0 ((LL.length : Int) - (k : Int))) = true := by simp; omega
            have t2 : max 0 ((LL.length : Int) - (k : Int)) = (LL.length : Int) - (k : Int) := by omega
            go_wp2_with (first
              | (go_at_call 14; ((with_reducible refine (rest_dice _ _ _ _ _ D.dd HLL.out (by omega)).mono ?_); rintro r9 w9 ⟨rfl, rfl⟩; have D9 := D.drew; clear D; have D := D9; clear D9)))
            refine Last.start (fun W => W.cell? ⟨X, 0, none⟩ = some (.int .i64 g) ∧ W.cell? ⟨X, 1, none⟩ = some (.slice a yn c) ∧ W.cell? ⟨X, 2, none⟩ = some (.slice b m d)) [(0, true), (1, true), (3, true), (4, true), (6, true), (2, false), (5, false), (7, false), (8, false), (9, false)] (by kernel_rfl) (by kernel_rfl) (by kernel_rfl) (by kernel_rfl) D.drew.rows ?_
            simp only [List.map_cons, List.map_nil, List.getElem?_toArray, List.getElem?_cons_zero, List.getElem?_cons_succ]
            repeat (first | (refine Last.take ?_ (by rfl) ?_ ?_; rotate_left; (· rintro w9 ⟨u0, u1, u2⟩; go_simp; (try rw [if_neg (by omega)]); all_goals (with_reducible rfl)); simp only [Act.put, List.setIfInBounds_toArray, List.set_cons_zero, List.set_cons_succ]) | (refine Last.pass (by rfl) ?_; simp only [Act.put, List.setIfInBounds_toArray, List.set_cons_zero, List.set_cons_succ]))
            have D9 := D.drew
            clear D
            have D := D9
            clear D9
            refine Last.call (by rfl) 15 _ ?_ (next_any _ _ _ _ _ (7) D.dd HLL.out (by omega) (by omega)) ?_
            · go_simp
            rintro r9 w5 ⟨rfl, hd, hgr, hsz⟩
            have D9 := D.next hd hgr
            clear D hd hgr hsz
            have D := D9
            clear D9
            refine ⟨_, rfl, D.rows, ?_⟩
            simp only [Act.put, List.setIfInBounds_toArray, List.set_cons_zero, List.set_cons_succ]
            repeat (first | (refine Last.take ?_ (by rfl) ?_ ?_; rotate_left; (· rintro w9 ⟨u0, u1, u2⟩; go_simp; (try rw [if_neg (by omega)]); all_goals (with_reducible rfl)); simp only [Act.put, List.setIfInBounds_toArray, List.set_cons_zero, List.set_cons_succ]) | (refine Last.pass (by rfl) ?_; simp only [Act.put, List.setIfInBounds_toArray, List.set_cons_zero, List.set_cons_succ]))
            refine Last.call (by rfl) 15 _ ?_ (next_any _ _ _ _ _ ((yn : Int)) D.dd HLL.out (by omega) (by omega)) ?_
            · go_simp
            rintro r9 w7 ⟨rfl, hd, hgr, hsz⟩
            have D9 := D.next hd hgr
            clear D hd hgr hsz
            have D := D9
            clear D9
            refine ⟨_, rfl, D.rows, ?_⟩
            simp only [Act.put, List.setIfInBounds_toArray, List.set_cons_zero, List.set_cons_succ]
            repeat (first | (refine Last.take ?_ (by rfl) ?_ ?_; rotate_left; (· rintro w9 ⟨u0, u1, u2⟩; go_simp; (try rw [if_neg (by omega)]); all_goals (with_reducible rfl)); simp only [Act.put, List.setIfInBounds_toArray, List.set_cons_zero, List.set_cons_succ]) | (refine Last.pass (by rfl) ?_; simp only [Act.put, List.setIfInBounds_toArray, List.set_cons_zero, List.set_cons_succ]))
            refine Last.call (by rfl) 15 _ ?_ (next_any _ _ _ _ _ (6) D.dd HLL.out (by omega) (by omega)) ?_
            · go_simp
            rintro r9 w8 ⟨rfl, hd, hgr, hsz⟩
            have D9 := D.next hd hgr
            clear D hd hgr hsz
            have D := D9
            clear D9
            refine ⟨_, rfl, D.rows, ?_⟩
            simp only [Act.put, List.setIfInBounds_toArray, List.set_cons_zero, List.set_cons_succ]
            repeat (first | (refine Last.take ?_ (by rfl) ?_ ?_; rotate_left; (· rintro w9 ⟨u0, u1, u2⟩; go_simp; (try rw [if_neg (by omega)]); all_goals (with_reducible rfl)); simp only [Act.put, List.setIfInBounds_toArray, List.set_cons_zero, List.set_cons_succ]) | (refine Last.pass (by rfl) ?_; simp only [Act.put, List.setIfInBounds_toArray, List.set_cons_zero, List.set_cons_succ]))
            have hn6 := (nxt_le LL (stp LL (stp LL k)) (show (1 : Int) ≤ 6 by decide)).2
            generalize nxt LL (stp LL (stp LL k)) 6 = z7 at *
            generalize nxt LL (stp LL k) ((yn : Int)) = s7 at *
            generalize nxt LL k 7 = k7 at *
            refine Last.call (by rfl) 17 _ ?_ (do_any _ E k7 s7 z7 _ _ _ _ _ _ _ _ D.ll.cut (by omega)) ?_
            · go_simp
            rintro r9 w6 ⟨xg, xa, xn, xc, xb, xm, xd, rfl, lx, h9⟩
            have l5 := D.res lx
            have D9 := D.on h9
            clear D lx h9
            have D := D9
            clear D9
            refine ⟨_, rfl, D.rows, ?_⟩
            simp only [Act.put, List.setIfInBounds_toArray, List.set_cons_zero, List.set_cons_succ]
            refine Last.last (by rfl) (wp_store_row 25 _ _ rfl X #[.int .i64 xg, .slice xa xn xc, .slice xb xm xd] (by rfl) (by rfl) 25 _ D.hX epo_info rfl (by simp [Value.oneCell']) ?_)
            simp only [Act.put]
            have D9 := D.put l5
            clear D l5
            have D := D9
            clear D9
            generalize w6.setRow X #[.int .i64 xg, .slice xa xn xc, .slice xb xm xd] = w9 at *
            have F9 := few_do F0 k7 s7 z7 (by omega)
            have e2 := D.ll.p.length
            have e3 := D.ll.z.length
            have e4 := F9.l
            have e5 := F9.k
            have e6 := stp_le LL k
            have e7 := stp_le LL (stp LL k)
            have e8 := stp_le LL (stp LL (stp LL k))
            obtain rfl : xn = yn := by omega
            go_wp2_with fail
            go_roundw
            case rel => exact ⟨i + 1, _, _, _, _, _, _, _, _, by go_num, by omega, by omega, F9, D⟩
            case measure => simp [intOf]; omega
          · have t1 : decide (0 < max 0 ((LL.length : Int) - (k : Int))) = false := by simp; omega
            have t2 : max 0 ((LL.length : Int) - (k : Int)) = 0 := by omega
            have HF := Lib.hid F0
            clear F0
            have GS := grace_start HF.out
            have hq := HF.out
            have hUl : (unpinE E 0).pins.length = E.pins.length ∧ (unpinE E 0).zones = E.zones := by unfold unpinE; split <;> simp [pinned]
            have hVl : (pinE (unpinE E 0) 0).pins.length = E.pins.length ∧ (pinE (unpinE E 0) 0).zones = E.zones := by rw [← hUl.1, ← hUl.2]; generalize unpinE E 0 = U; unfold pinE; split <;> simp [pinned]
            have hRl : (retireE (pinE (unpinE E 0) 0) 99).zones.length ≤ 31 := by
              have h1 : ∀ V : Epo, (retireE V 99).zones.length ≤ V.zones.length + 1 := fun V => by unfold retireE; split <;> simp
              have h2 := h1 (pinE (unpinE E 0) 0)
              rw [hVl.2] at h2
              have := hq.k
              omega
            have hz0 : E.zones.length ≤ 30 := by have := hq.k; omega
            have hp0 : E.pins.length ≤ 4 := by have := hq.l; omega
            have hU2 : (unpinE E 0).pins.length ≤ 4 ∧ (unpinE E 0).zones.length ≤ 30 := by rw [hUl.1, hUl.2]; exact ⟨hp0, hz0⟩
            have hV2 : (pinE (unpinE E 0) 0).pins.length ≤ 4 ∧ (pinE (unpinE E 0) 0).zones.length ≤ 30 := by rw [hVl.1, hVl.2]; exact ⟨hp0, hz0⟩
            have u1 := fun W (F : Nat → Prop) g a n c b m d (hF : ∀ b, F b → b < W.heap.size) (l : PList W F g a n c b m d (E)) => H.unpin F (E) 0 g a b n c m d W hF l (by have := l.p.length; omega) (by have := l.z.length; omega)
            have p1 := fun W (F : Nat → Prop) g a n c b m d (hF : ∀ b, F b → b < W.heap.size) (l : PList W F g a n c b m d (unpinE E 0)) => H.pin F (unpinE E 0) 0 g a b n c m d W hF l (by have := l.p.length; omega) (by have := l.z.length; omega)
            have r1 := fun W (F : Nat → Prop) g a n c b m d (hF : ∀ b, F b → b < W.heap.size) (l : PList W F g a n c b m d (pinE (unpinE E 0) 0)) => H.retire F (pinE (unpinE E 0) 0) 99 g a b n c m d W hF l (by have := l.p.length; omega) (by have := l.z.length; omega)
            unfold EpoPost at u1 p1 r1
            obtain ⟨g1, g2, GR⟩ := GS
            simp only [g1] at p1
            simp only [g2] at r1
            generalize retireE (pinE (unpinE E 0) 0) 99 = ER at *
            generalize pinE (unpinE E 0) 0 = EV at *
            generalize (unpinE E 0).glob = G at *
            generalize unpinE E 0 = EU at *
            generalize unpinB E 0 = UB at *
            have U1 := Lib.hid u1
            have P1 := Lib.hid p1
            have R1 := Lib.hid r1
            have HGR := Lib.hid GR
            clear u1 p1 r1 g1 g2 GR hq hUl hVl HF hU2 hV2 hz0 hp0
            go_wp2_with (first
              | (go_at_call 14; ((with_reducible refine (rest_dice _ _ _ _ _ D.dd HLL.out (by omega)).mono ?_); rintro r9 w9 ⟨rfl, rfl⟩; have D9 := D.drew; clear D; have D := D9; clear D9))
              | ((with_reducible refine Plan.load_lit 25 (.tmp 8) (X) ?_ D.hX Try.underlying25 ?_ ?_ ?_); (· rfl); (· rfl); (· exact epo_info); simp only [Act.put, List.setIfInBounds_toArray, List.set_cons_zero, List.set_cons_succ])
              | (go_at_call 18; ((with_reducible refine (U1.out _ _ _ _ _ _ _ _ _ (fun _ h => h.2) D.ll.cut).mono ?_); rintro r9 w6 ⟨xg, xa, xn, xc, xb, xm, xd, rfl, lx, h9⟩; have l5 := D.res lx; have D9 := D.on h9; clear D lx h9 U1; have D := D9; clear D9))
              | (go_at_call 19; ((with_reducible refine (P1.out _ _ _ _ _ _ _ _ _ (fun _ h => h.2) D.ll.cut).mono ?_); rintro r9 w6 ⟨xg, xa, xn, xc, xb, xm, xd, rfl, lx, h9⟩; have l5 := D.res lx; have D9 := D.on h9; clear D lx h9 P1; have D := D9; clear D9))
              | (go_at_call 20; ((with_reducible refine (R1.out _ _ _ _ _ _ _ _ _ (fun _ h => h.2) D.ll.cut).mono ?_); rintro r9 w6 ⟨xg, xa, xn, xc, xb, xm, xd, rfl, lx, h9⟩; have l5 := D.res lx; have D9 := D.on h9; clear D lx h9 R1; have D := D9; clear D9))
              | ((with_reducible refine Plan.store_lit 25 (.tmp 8) _ X ?_ D.hX ?_ ?_ ?_ ?_ ?_ ?_); rotate_left; (· rfl); (· rfl); (· exact epo_info); (· rfl); (· simp [Value.oneCell']); simp only [Act.put]; have D9 := D.put l5; generalize w6.setRow X #[.int .i64 xg, .slice xa xn xc, .slice xb xm xd] = w6 at *; clear D l5; have D := D9; clear D9))
            have hxn := D.ll.p.length
            have hGl := HGR.out.l
            obtain rfl : xn = yn := by omega
            clear hxn hGl
            go_loopw [14] (fun x wr => ∃ (j : Nat) (E : Epo) (g : Int) (a b : Option Addr) (c m d : Nat), x = .int .i64 (j : Int) ∧ j ≤ l2 ∧ RowKit.Hid (Grace E xn G) ∧ E.zones.length ≤ 31 ∧ EDie w wr X base q LL k g a b xn c m d E) (fun x _ => l2 - (intOf x).toNat)
            case atStart => exact ⟨0, ER, _, _, _, _, _, _, rfl, by omega, HGR, hRl, D⟩
            case round =>
              clear D HGR hRl
              obtain ⟨j, E, g, a, b, c, m, d, rfl, hj, HG, hE, D⟩ := hrel
              by_cases hlt : j < l2
              · obtain ⟨x, B, rfl, hcw, hB1, hB2⟩ := HBY.out j hlt
                have hcb := hcw _ D.hb
                have hjI : (j : Int) < (l2 : Int) := by omega
                have c0 := D.rows.1
                have hxn : xn ≤ 4 := hn2
                have hEp := HG.out.l
                have hEg := D.ll.hg
                obtain ⟨SL, hSL⟩ : ∃ SL : Int, 1 + (B / 4) % ((xn : Int) - 1) = SL := ⟨_, rfl⟩
                have hS1 : 1 ≤ SL := by
                  have h5 := Int.emod_nonneg (B / 4) (show (xn : Int) - 1 ≠ 0 by omega)
                  omega
                rcases (show (B % 4 = 0) ∨ (B % 4 ≠ 0 ∧ B % 4 = 1) ∨ (B % 4 ≠ 0 ∧ B % 4 ≠ 1 ∧ B % 4 = 2) ∨ (B % 4 ≠ 0 ∧ B % 4 ≠ 1 ∧ B % 4 ≠ 2) by omega) with q1 | ⟨q1, q2⟩ | ⟨q1, q2, q3⟩ | ⟨q1, q2, q3⟩
                · skip
                  have t0 : (B % 4 == 0) = true := by simpa using q1
                  have HG2 := Lib.hid (HG.out.pin hS1)
                  have hE2 : (pinE E SL).zones.length ≤ 31 := by have : (pinE E SL).zones = E.zones := (by unfold pinE; split <;> rfl); rw [this]; exact hE
                  have hE2p : (pinE E SL).pins.length = xn := HG2.out.l
                  have hE2g : g ≤ (pinE E SL).glob := by rw [pin_glob]; omega
                  have f1 := fun W (F : Nat → Prop) g a n c b m d (hF : ∀ b, F b → b < W.heap.size) (l : PList W F g a n c b m d (E)) => H.pin F (E) SL g a b n c m d W hF l (by have := l.p.length; omega) (by have := l.z.length; omega)
                  unfold EpoPost at f1
                  generalize pinB E SL = PB at f1
                  generalize pinE E SL = E2 at *
                  have F1 := Lib.hid f1
                  clear f1
                  have HNR := Lib.hid (fun h => HG2.out.not h)
                  have rd := fun W (F : Nat → Prop) g a n c b m d (hF : ∀ b, F b → b < W.heap.size) (l : PList W F g a n c b m d (E2)) => H.ready F (E2) g a b n c m d W hF l (by have := l.p.length; omega) (by have := l.z.length; omega)
                  unfold RdyPost at rd
                  cases hrb : readyB E2
                  · rw [hrb] at rd
                    have RD2 := Lib.hid rd
                    generalize readyZ E2 = RZ at *
                    clear rd hrb HNR
                    go_wp2_with fail
                    refine Plan.start (fun W => W.cell? (x.add j) = some (.int .u8 B)) [(1, true), (2, true), (3, true), (4, true), (5, true), (6, true), (7, true), (8, true), (9, true), (10, true), (0, false), (11, false), (12, true), (13, true), (14, true), (15, false)] (by kernel_rfl) (by kernel_rfl) (by kernel_rfl) (by kernel_rfl) (hcw _ D.drew.hb) ?_
                    simp only [List.map_cons, List.map_nil, List.getElem?_toArray, List.getElem?_cons_zero, List.getElem?_cons_succ]
                    repeat (first | (refine Plan.take ?_ (by rfl) ?_ ?_; rotate_left; (· rintro w9 u3; go_simp; (try rw [if_neg (by omega)]); all_goals (with_reducible rfl)); simp only [Act.put, List.setIfInBounds_toArray, List.set_cons_zero, List.set_cons_succ]) | (refine Plan.pass (by rfl) ?_; simp only [Act.put, List.setIfInBounds_toArray, List.set_cons_zero, List.set_cons_succ]))
                    have D9 := D.drew
                    clear D
                    have D := D9
                    clear D9
                    obtain ⟨r0, r1, r2⟩ := D.rows
                    refine Plan.make (by rfl) (epoV g a xn c b m d) _ ?_ (hcw _ D.hb) ?_
                    · go_simp
                    clear r0 r1 r2
                    simp only [Act.put, List.setIfInBounds_toArray, List.set_cons_zero, List.set_cons_succ]
                    repeat (first | (refine Plan.take ?_ (by rfl) ?_ ?_; rotate_left; (· rintro w9 u3; go_simp; (try rw [if_neg (by omega)]); all_goals (with_reducible rfl)); simp only [Act.put, List.setIfInBounds_toArray, List.set_cons_zero, List.set_cons_succ]) | (refine Plan.pass (by rfl) ?_; simp only [Act.put, List.setIfInBounds_toArray, List.set_cons_zero, List.set_cons_succ]))
                    refine Plan.call (by rfl) 19 #[epoV g a xn c b m d, .int .i64 SL] ?_ (F1.out _ _ _ _ _ _ _ _ _ (fun _ h => h.2) D.ll.cut) ?_
                    · go_simp
                      exact slot_is hB1 hB2 (by omega) (by omega) hSL
                    rintro r9 w6 ⟨xg, xa, xn1, xc, xb, xm, xd, rfl, lx, h9⟩
                    have l5 := D.res lx
                    have hg9 := lx.hg
                    have D9 := D.on h9
                    clear D lx h9
                    have D := D9
                    clear D9
                    refine ⟨_, rfl, hcw _ D.hb, ?_⟩
                    simp only [Act.put, List.setIfInBounds_toArray, List.set_cons_zero, List.set_cons_succ]
                    repeat (first | (refine Plan.take ?_ (by rfl) ?_ ?_; rotate_left; (· rintro w9 u3; go_simp; (try rw [if_neg (by omega)]); all_goals (with_reducible rfl)); simp only [Act.put, List.setIfInBounds_toArray, List.set_cons_zero, List.set_cons_succ]) | (refine Plan.pass (by rfl) ?_; simp only [Act.put, List.setIfInBounds_toArray, List.set_cons_zero, List.set_cons_succ]))
                    have D9 := D.put l5
                    refine Plan.store (by rfl) 25 (.tmp 8) (.tmp 123) rfl X #[.int .i64 xg, .slice xa xn1 xc, .slice xb xm xd] rfl rfl 25 _ D.hX epo_info rfl (by simp [Value.oneCell']) (hcw _ D9.hb) ?_
                    simp only [Act.put]
                    repeat (first | (refine Plan.take ?_ (by rfl) ?_ ?_; rotate_left; (· rintro w9 u3; go_simp; (try rw [if_neg (by omega)]); all_goals (with_reducible rfl)); simp only [Act.put, List.setIfInBounds_toArray, List.set_cons_zero, List.set_cons_succ]) | (refine Plan.pass (by rfl) ?_; simp only [Act.put, List.setIfInBounds_toArray, List.set_cons_zero, List.set_cons_succ]))
                    refine Plan.ends ?_
                    clear D l5 c0
                    have D := D9
                    clear D9
                    generalize w6.setRow X #[.int .i64 xg, .slice xa xn1 xc, .slice xb xm xd] = w9 at *
                    have hxl := D.ll.p.length
                    obtain rfl : xn1 = xn := by omega
                    have t8 : decide (xg < g) = false := by simp; omega
                    have c0 := D.rows.1
                    go_wp2_with (first
                      | ((with_reducible refine Plan.load_lit 25 (.tmp 8) (X) ?_ D.hX Try.underlying25 ?_ ?_ ?_); (· rfl); (· rfl); (· exact epo_info); simp only [Act.put, List.setIfInBounds_toArray, List.set_cons_zero, List.set_cons_succ])
                      | (go_at_call 22; ((with_reducible refine (RD2.out _ _ _ _ _ _ _ _ _ (fun _ h => h.2) D.ll.cut).mono ?_); rintro r9 w8 ⟨rfl, h9⟩; have D9 := D.on h9; clear D h9 c0; have D := D9; clear D9; have c0 := D.rows.1)))
                    go_roundw
                    case rel => exact ⟨j + 1, E2, _, _, _, _, _, _, by go_num, by omega, HG2, hE2, D⟩
                    case measure => simp [intOf]; omega
                  · rw [hrb] at rd
                    have hnr := HNR.out hrb
                    have RD2 := Lib.hid rd
                    generalize readyZ E2 = RZ at *
                    have t9 : (RZ == 99) = false := by simpa using hnr
                    clear rd hrb HNR hnr
                    go_wp2_with fail
                    refine Plan.start (fun W => W.cell? (x.add j) = some (.int .u8 B)) [(1, true), (2, true), (3, true), (4, true), (5, true), (6, true), (7, true), (8, true), (9, true), (10, true), (0, false), (11, false), (12, true), (13, true), (14, true), (15, false)] (by kernel_rfl) (by kernel_rfl) (by kernel_rfl) (by kernel_rfl) (hcw _ D.drew.hb) ?_
                    simp only [List.map_cons, List.map_nil, List.getElem?_toArray, List.getElem?_cons_zero, List.getElem?_cons_succ]
                    repeat (first | (refine Plan.take ?_ (by rfl) ?_ ?_; rotate_left; (· rintro w9 u3; go_simp; (try rw [if_neg (by omega)]); all_goals (with_reducible rfl)); simp only [Act.put, List.setIfInBounds_toArray, List.set_cons_zero, List.set_cons_succ]) | (refine Plan.pass (by rfl) ?_; simp only [Act.put, List.setIfInBounds_toArray, List.set_cons_zero, List.set_cons_succ]))
                    have D9 := D.drew
                    clear D
                    have D := D9
                    clear D9
                    obtain ⟨r0, r1, r2⟩ := D.rows
                    refine Plan.make (by rfl) (epoV g a xn c b m d) _ ?_ (hcw _ D.hb) ?_
                    · go_simp
                    clear r0 r1 r2
                    simp only [Act.put, List.setIfInBounds_toArray, List.set_cons_zero, List.set_cons_succ]
                    repeat (first | (refine Plan.take ?_ (by rfl) ?_ ?_; rotate_left; (· rintro w9 u3; go_simp; (try rw [if_neg (by omega)]); all_goals (with_reducible rfl)); simp only [Act.put, List.setIfInBounds_toArray, List.set_cons_zero, List.set_cons_succ]) | (refine Plan.pass (by rfl) ?_; simp only [Act.put, List.setIfInBounds_toArray, List.set_cons_zero, List.set_cons_succ]))
                    refine Plan.call (by rfl) 19 #[epoV g a xn c b m d, .int .i64 SL] ?_ (F1.out _ _ _ _ _ _ _ _ _ (fun _ h => h.2) D.ll.cut) ?_
                    · go_simp
                      exact slot_is hB1 hB2 (by omega) (by omega) hSL
                    rintro r9 w6 ⟨xg, xa, xn1, xc, xb, xm, xd, rfl, lx, h9⟩
                    have l5 := D.res lx
                    have hg9 := lx.hg
                    have D9 := D.on h9
                    clear D lx h9
                    have D := D9
                    clear D9
                    refine ⟨_, rfl, hcw _ D.hb, ?_⟩
                    simp only [Act.put, List.setIfInBounds_toArray, List.set_cons_zero, List.set_cons_succ]
                    repeat (first | (refine Plan.take ?_ (by rfl) ?_ ?_; rotate_left; (· rintro w9 u3; go_simp; (try rw [if_neg (by omega)]); all_goals (with_reducible rfl)); simp only [Act.put, List.setIfInBounds_toArray, List.set_cons_zero, List.set_cons_succ]) | (refine Plan.pass (by rfl) ?_; simp only [Act.put, List.setIfInBounds_toArray, List.set_cons_zero, List.set_cons_succ]))
                    have D9 := D.put l5
                    refine Plan.store (by rfl) 25 (.tmp 8) (.tmp 123) rfl X #[.int .i64 xg, .slice xa xn1 xc, .slice xb xm xd] rfl rfl 25 _ D.hX epo_info rfl (by simp [Value.oneCell']) (hcw _ D9.hb) ?_
                    simp only [Act.put]
                    repeat (first | (refine Plan.take ?_ (by rfl) ?_ ?_; rotate_left; (· rintro w9 u3; go_simp; (try rw [if_neg (by omega)]); all_goals (with_reducible rfl)); simp only [Act.put, List.setIfInBounds_toArray, List.set_cons_zero, List.set_cons_succ]) | (refine Plan.pass (by rfl) ?_; simp only [Act.put, List.setIfInBounds_toArray, List.set_cons_zero, List.set_cons_succ]))
                    refine Plan.ends ?_
                    clear D l5 c0
                    have D := D9
                    clear D9
                    generalize w6.setRow X #[.int .i64 xg, .slice xa xn1 xc, .slice xb xm xd] = w9 at *
                    have hxl := D.ll.p.length
                    obtain rfl : xn1 = xn := by omega
                    have t8 : decide (xg < g) = false := by simp; omega
                    have c0 := D.rows.1
                    go_wp2_with (first
                      | ((with_reducible refine Plan.load_lit 25 (.tmp 8) (X) ?_ D.hX Try.underlying25 ?_ ?_ ?_); (· rfl); (· rfl); (· exact epo_info); simp only [Act.put, List.setIfInBounds_toArray, List.set_cons_zero, List.set_cons_succ])
                      | (go_at_call 22; ((with_reducible refine (RD2.out _ _ _ _ _ _ _ _ _ (fun _ h => h.2) D.ll.cut).mono ?_); rintro r9 w8 ⟨rfl, h9⟩; have D9 := D.on h9; clear D h9 c0; have D := D9; clear D9; have c0 := D.rows.1)))
                    go_roundw
                    case rel => exact ⟨j + 1, E2, _, _, _, _, _, _, by go_num, by omega, HG2, hE2, D⟩
                    case measure => simp [intOf]; omega
                · skip
                  have t0 : (B % 4 == 0) = false := by simpa using q1
                  have t1 : (B % 4 == 1) = true := by simpa using q2
                  have HG2 := Lib.hid (HG.out.unpin hS1)
                  have hE2 : (unpinE E SL).zones.length ≤ 31 := by have : (unpinE E SL).zones = E.zones := (by unfold unpinE; split <;> rfl); rw [this]; exact hE
                  have hE2p : (unpinE E SL).pins.length = xn := HG2.out.l
                  have hE2g : g ≤ (unpinE E SL).glob := by rw [unpin_glob]; omega
                  have f1 := fun W (F : Nat → Prop) g a n c b m d (hF : ∀ b, F b → b < W.heap.size) (l : PList W F g a n c b m d (E)) => H.unpin F (E) SL g a b n c m d W hF l (by have := l.p.length; omega) (by have := l.z.length; omega)
                  unfold EpoPost at f1
                  generalize unpinB E SL = PB at f1
                  generalize unpinE E SL = E2 at *
                  have F1 := Lib.hid f1
                  clear f1
                  have HNR := Lib.hid (fun h => HG2.out.not h)
                  have rd := fun W (F : Nat → Prop) g a n c b m d (hF : ∀ b, F b → b < W.heap.size) (l : PList W F g a n c b m d (E2)) => H.ready F (E2) g a b n c m d W hF l (by have := l.p.length; omega) (by have := l.z.length; omega)
                  unfold RdyPost at rd
                  cases hrb : readyB E2
                  · rw [hrb] at rd
                    have RD2 := Lib.hid rd
                    generalize readyZ E2 = RZ at *
                    clear rd hrb HNR
                    go_wp2_with fail
                    refine Plan.start (fun W => W.cell? (x.add j) = some (.int .u8 B)) [(1, true), (2, true), (3, true), (4, true), (5, true), (6, true), (7, true), (8, true), (9, true), (10, true), (0, false), (11, false), (12, true), (13, true), (14, true), (15, false)] (by kernel_rfl) (by kernel_rfl) (by kernel_rfl) (by kernel_rfl) (hcw _ D.drew.hb) ?_
                    simp only [List.map_cons, List.map_nil, List.getElem?_toArray, List.getElem?_cons_zero, List.getElem?_cons_succ]
                    repeat (first | (refine Plan.take ?_ (by rfl) ?_ ?_; rotate_left; (· rintro w9 u3; go_simp; (try rw [if_neg (by omega)]); all_goals (with_reducible rfl)); simp only [Act.put, List.setIfInBounds_toArray, List.set_cons_zero, List.set_cons_succ]) | (refine Plan.pass (by rfl) ?_; simp only [Act.put, List.setIfInBounds_toArray, List.set_cons_zero, List.set_cons_succ]))
                    have D9 := D.drew
                    clear D
                    have D := D9
                    clear D9
                    obtain ⟨r0, r1, r2⟩ := D.rows
                    refine Plan.make (by rfl) (epoV g a xn c b m d) _ ?_ (hcw _ D.hb) ?_
                    · go_simp
                    clear r0 r1 r2
                    simp only [Act.put, List.setIfInBounds_toArray, List.set_cons_zero, List.set_cons_succ]
                    repeat (first | (refine Plan.take ?_ (by rfl) ?_ ?_; rotate_left; (· rintro w9 u3; go_simp; (try rw [if_neg (by omega)]); all_goals (with_reducible rfl)); simp only [Act.put, List.setIfInBounds_toArray, List.set_cons_zero, List.set_cons_succ]) | (refine Plan.pass (by rfl) ?_; simp only [Act.put, List.setIfInBounds_toArray, List.set_cons_zero, List.set_cons_succ]))
                    refine Plan.call (by rfl) 18 #[epoV g a xn c b m d, .int .i64 SL] ?_ (F1.out _ _ _ _ _ _ _ _ _ (fun _ h => h.2) D.ll.cut) ?_
                    · go_simp
                      exact slot_is hB1 hB2 (by omega) (by omega) hSL
                    rintro r9 w6 ⟨xg, xa, xn1, xc, xb, xm, xd, rfl, lx, h9⟩
                    have l5 := D.res lx
                    have hg9 := lx.hg
                    have D9 := D.on h9
                    clear D lx h9
                    have D := D9
                    clear D9
                    refine ⟨_, rfl, hcw _ D.hb, ?_⟩
                    simp only [Act.put, List.setIfInBounds_toArray, List.set_cons_zero, List.set_cons_succ]
                    repeat (first | (refine Plan.take ?_ (by rfl) ?_ ?_; rotate_left; (· rintro w9 u3; go_simp; (try rw [if_neg (by omega)]); all_goals (with_reducible rfl)); simp only [Act.put, List.setIfInBounds_toArray, List.set_cons_zero, List.set_cons_succ]) | (refine Plan.pass (by rfl) ?_; simp only [Act.put, List.setIfInBounds_toArray, List.set_cons_zero, List.set_cons_succ]))
                    have D9 := D.put l5
                    refine Plan.store (by rfl) 25 (.tmp 8) (.tmp 140) rfl X #[.int .i64 xg, .slice xa xn1 xc, .slice xb xm xd] rfl rfl 25 _ D.hX epo_info rfl (by simp [Value.oneCell']) (hcw _ D9.hb) ?_
                    simp only [Act.put]
                    repeat (first | (refine Plan.take ?_ (by rfl) ?_ ?_; rotate_left; (· rintro w9 u3; go_simp; (try rw [if_neg (by omega)]); all_goals (with_reducible rfl)); simp only [Act.put, List.setIfInBounds_toArray, List.set_cons_zero, List.set_cons_succ]) | (refine Plan.pass (by rfl) ?_; simp only [Act.put, List.setIfInBounds_toArray, List.set_cons_zero, List.set_cons_succ]))
                    refine Plan.ends ?_
                    clear D l5 c0
                    have D := D9
                    clear D9
                    generalize w6.setRow X #[.int .i64 xg, .slice xa xn1 xc, .slice xb xm xd] = w9 at *
                    have hxl := D.ll.p.length
                    obtain rfl : xn1 = xn := by omega
                    have t8 : decide (xg < g) = false := by simp; omega
                    have c0 := D.rows.1
                    go_wp2_with (first
                      | ((with_reducible refine Plan.load_lit 25 (.tmp 8) (X) ?_ D.hX Try.underlying25 ?_ ?_ ?_); (· rfl); (· rfl); (· exact epo_info); simp only [Act.put, List.setIfInBounds_toArray, List.set_cons_zero, List.set_cons_succ])
                      | (go_at_call 22; ((with_reducible refine (RD2.out _ _ _ _ _ _ _ _ _ (fun _ h => h.2) D.ll.cut).mono ?_); rintro r9 w8 ⟨rfl, h9⟩; have D9 := D.on h9; clear D h9 c0; have D := D9; clear D9; have c0 := D.rows.1)))
                    go_roundw
                    case rel => exact ⟨j + 1, E2, _, _, _, _, _, _, by go_num, by omega, HG2, hE2, D⟩
                    case measure => simp [intOf]; omega
                  · rw [hrb] at rd
                    have hnr := HNR.out hrb
                    have RD2 := Lib.hid rd
                    generalize readyZ E2 = RZ at *
                    have t9 : (RZ == 99) = false := by simpa using hnr
                    clear rd hrb HNR hnr
                    go_wp2_with fail
                    refine Plan.start (fun W => W.cell? (x.add j) = some (.int .u8 B)) [(1, true), (2, true), (3, true), (4, true), (5, true), (6, true), (7, true), (8, true), (9, true), (10, true), (0, false), (11, false), (12, true), (13, true), (14, true), (15, false)] (by kernel_rfl) (by kernel_rfl) (by kernel_rfl) (by kernel_rfl) (hcw _ D.drew.hb) ?_
                    simp only [List.map_cons, List.map_nil, List.getElem?_toArray, List.getElem?_cons_zero, List.getElem?_cons_succ]
                    repeat (first | (refine Plan.take ?_ (by rfl) ?_ ?_; rotate_left; (· rintro w9 u3; go_simp; (try rw [if_neg (by omega)]); all_goals (with_reducible rfl)); simp only [Act.put, List.setIfInBounds_toArray, List.set_cons_zero, List.set_cons_succ]) | (refine Plan.pass (by rfl) ?_; simp only [Act.put, List.setIfInBounds_toArray, List.set_cons_zero, List.set_cons_succ]))
                    have D9 := D.drew
                    clear D
                    have D := D9
                    clear D9
                    obtain ⟨r0, r1, r2⟩ := D.rows
                    refine Plan.make (by rfl) (epoV g a xn c b m d) _ ?_ (hcw _ D.hb) ?_
                    · go_simp
                    clear r0 r1 r2
                    simp only [Act.put, List.setIfInBounds_toArray, List.set_cons_zero, List.set_cons_succ]
                    repeat (first | (refine Plan.take ?_ (by rfl) ?_ ?_; rotate_left; (· rintro w9 u3; go_simp; (try rw [if_neg (by omega)]); all_goals (with_reducible rfl)); simp only [Act.put, List.setIfInBounds_toArray, List.set_cons_zero, List.set_cons_succ]) | (refine Plan.pass (by rfl) ?_; simp only [Act.put, List.setIfInBounds_toArray, List.set_cons_zero, List.set_cons_succ]))
                    refine Plan.call (by rfl) 18 #[epoV g a xn c b m d, .int .i64 SL] ?_ (F1.out _ _ _ _ _ _ _ _ _ (fun _ h => h.2) D.ll.cut) ?_
                    · go_simp
                      exact slot_is hB1 hB2 (by omega) (by omega) hSL
                    rintro r9 w6 ⟨xg, xa, xn1, xc, xb, xm, xd, rfl, lx, h9⟩
                    have l5 := D.res lx
                    have hg9 := lx.hg
                    have D9 := D.on h9
                    clear D lx h9
                    have D := D9
                    clear D9
                    refine ⟨_, rfl, hcw _ D.hb, ?_⟩
                    simp only [Act.put, List.setIfInBounds_toArray, List.set_cons_zero, List.set_cons_succ]
                    repeat (first | (refine Plan.take ?_ (by rfl) ?_ ?_; rotate_left; (· rintro w9 u3; go_simp; (try rw [if_neg (by omega)]); all_goals (with_reducible rfl)); simp only [Act.put, List.setIfInBounds_toArray, List.set_cons_zero, List.set_cons_succ]) | (refine Plan.pass (by rfl) ?_; simp only [Act.put, List.setIfInBounds_toArray, List.set_cons_zero, List.set_cons_succ]))
                    have D9 := D.put l5
                    refine Plan.store (by rfl) 25 (.tmp 8) (.tmp 140) rfl X #[.int .i64 xg, .slice xa xn1 xc, .slice xb xm xd] rfl rfl 25 _ D.hX epo_info rfl (by simp [Value.oneCell']) (hcw _ D9.hb) ?_
                    simp only [Act.put]
                    repeat (first | (refine Plan.take ?_ (by rfl) ?_ ?_; rotate_left; (· rintro w9 u3; go_simp; (try rw [if_neg (by omega)]); all_goals (with_reducible rfl)); simp only [Act.put, List.setIfInBounds_toArray, List.set_cons_zero, List.set_cons_succ]) | (refine Plan.pass (by rfl) ?_; simp only [Act.put, List.setIfInBounds_toArray, List.set_cons_zero, List.set_cons_succ]))
                    refine Plan.ends ?_
                    clear D l5 c0
                    have D := D9
                    clear D9
                    generalize w6.setRow X #[.int .i64 xg, .slice xa xn1 xc, .slice xb xm xd] = w9 at *
                    have hxl := D.ll.p.length
                    obtain rfl : xn1 = xn := by omega
                    have t8 : decide (xg < g) = false := by simp; omega
                    have c0 := D.rows.1
                    go_wp2_with (first
                      | ((with_reducible refine Plan.load_lit 25 (.tmp 8) (X) ?_ D.hX Try.underlying25 ?_ ?_ ?_); (· rfl); (· rfl); (· exact epo_info); simp only [Act.put, List.setIfInBounds_toArray, List.set_cons_zero, List.set_cons_succ])
                      | (go_at_call 22; ((with_reducible refine (RD2.out _ _ _ _ _ _ _ _ _ (fun _ h => h.2) D.ll.cut).mono ?_); rintro r9 w8 ⟨rfl, h9⟩; have D9 := D.on h9; clear D h9 c0; have D := D9; clear D9; have c0 := D.rows.1)))
                    go_roundw
                    case rel => exact ⟨j + 1, E2, _, _, _, _, _, _, by go_num, by omega, HG2, hE2, D⟩
                    case measure => simp [intOf]; omega
                · skip
                  have t0 : (B % 4 == 0) = false := by simpa using q1
                  have t1 : (B % 4 == 1) = false := by simpa using q2
                  have t2 : (B % 4 == 2) = true := by simpa using q3
                  have HG2 := Lib.hid (HG.out.adv)
                  have hE2 : (advE E).zones.length ≤ 31 := by have : (advE E).zones = E.zones := (by unfold advE; split <;> rfl); rw [this]; exact hE
                  have hE2p : (advE E).pins.length = xn := HG2.out.l
                  have hE2g : g ≤ (advE E).glob := by rcases adv_glob E with h | h <;> omega
                  have f1 := fun W (F : Nat → Prop) g a n c b m d (hF : ∀ b, F b → b < W.heap.size) (l : PList W F g a n c b m d (E)) => H.adv F (E) g a b n c m d W hF l (by have := l.p.length; omega) (by have := l.z.length; omega)
                  unfold EpoPost at f1
                  generalize advB E = PB at f1
                  generalize advE E = E2 at *
                  have F1 := Lib.hid f1
                  clear f1
                  have HNR := Lib.hid (fun h => HG2.out.not h)
                  have rd := fun W (F : Nat → Prop) g a n c b m d (hF : ∀ b, F b → b < W.heap.size) (l : PList W F g a n c b m d (E2)) => H.ready F (E2) g a b n c m d W hF l (by have := l.p.length; omega) (by have := l.z.length; omega)
                  unfold RdyPost at rd
                  cases hrb : readyB E2
                  · rw [hrb] at rd
                    have RD2 := Lib.hid rd
                    generalize readyZ E2 = RZ at *
                    clear rd hrb HNR
                    go_wp2_with (first
                      | ((with_reducible refine Plan.load_lit 25 (.tmp 8) (X) ?_ D.hX Try.underlying25 ?_ ?_ ?_); (· rfl); (· rfl); (· exact epo_info); simp only [Act.put, List.setIfInBounds_toArray, List.set_cons_zero, List.set_cons_succ])
                      | (go_at_call 21; ((with_reducible refine (F1.out _ _ _ _ _ _ _ _ _ (fun _ h => h.2) D.ll.cut).mono ?_); rintro r9 w6 ⟨xg, xa, xn1, xc, xb, xm, xd, rfl, lx, h9⟩; have l5 := D.res lx; have hg9 := lx.hg; have t8 : decide (xg < g) = false := (by simp; omega); have D9 := D.on h9; clear D lx h9 F1; have D := D9; clear D9))
                      | ((with_reducible refine Plan.store_lit 25 (.tmp 8) _ X ?_ D.hX ?_ ?_ ?_ ?_ ?_ ?_); rotate_left; (· rfl); (· rfl); (· exact epo_info); (· rfl); (· simp [Value.oneCell']); simp only [Act.put]; have D9 := D.put l5; generalize w6.setRow X #[.int .i64 xg, .slice xa xn1 xc, .slice xb xm xd] = w6 at *; clear D l5; have D := D9; clear D9)
                      | (go_at_call 22; ((with_reducible refine (RD2.out _ _ _ _ _ _ _ _ _ (fun _ h => h.2) D.ll.cut).mono ?_); rintro r9 w8 ⟨rfl, h9⟩; have D9 := D.on h9; clear D h9 c0; have D := D9; clear D9; have c0 := D.rows.1)))
                    have hxl := D.ll.p.length
                    obtain rfl : xn1 = xn := by omega
                    go_roundw
                    case rel => exact ⟨j + 1, E2, _, _, _, _, _, _, by go_num, by omega, HG2, hE2, D⟩
                    case measure => simp [intOf]; omega
                  · rw [hrb] at rd
                    have hnr := HNR.out hrb
                    have RD2 := Lib.hid rd
                    generalize readyZ E2 = RZ at *
                    have t9 : (RZ == 99) = false := by simpa using hnr
                    clear rd hrb HNR hnr
                    go_wp2_with (first
                      | ((with_reducible refine Plan.load_lit 25 (.tmp 8) (X) ?_ D.hX Try.underlying25 ?_ ?_ ?_); (· rfl); (· rfl); (· exact epo_info); simp only [Act.put, List.setIfInBounds_toArray, List.set_cons_zero, List.set_cons_succ])
                      | (go_at_call 21; ((with_reducible refine (F1.out _ _ _ _ _ _ _ _ _ (fun _ h => h.2) D.ll.cut).mono ?_); rintro r9 w6 ⟨xg, xa, xn1, xc, xb, xm, xd, rfl, lx, h9⟩; have l5 := D.res lx; have hg9 := lx.hg; have t8 : decide (xg < g) = false := (by simp; omega); have D9 := D.on h9; clear D lx h9 F1; have D := D9; clear D9))
                      | ((with_reducible refine Plan.store_lit 25 (.tmp 8) _ X ?_ D.hX ?_ ?_ ?_ ?_ ?_ ?_); rotate_left; (· rfl); (· rfl); (· exact epo_info); (· rfl); (· simp [Value.oneCell']); simp only [Act.put]; have D9 := D.put l5; generalize w6.setRow X #[.int .i64 xg, .slice xa xn1 xc, .slice xb xm xd] = w6 at *; clear D l5; have D := D9; clear D9)
                      | (go_at_call 22; ((with_reducible refine (RD2.out _ _ _ _ _ _ _ _ _ (fun _ h => h.2) D.ll.cut).mono ?_); rintro r9 w8 ⟨rfl, h9⟩; have D9 := D.on h9; clear D h9 c0; have D := D9; clear D9; have c0 := D.rows.1)))
                    have hxl := D.ll.p.length
                    obtain rfl : xn1 = xn := by omega
                    go_roundw
                    case rel => exact ⟨j + 1, E2, _, _, _, _, _, _, by go_num, by omega, HG2, hE2, D⟩
                    case measure => simp [intOf]; omega
                · skip
                  have t0 : (B % 4 == 0) = false := by simpa using q1
                  have t1 : (B % 4 == 1) = false := by simpa using q2
                  have t2 : (B % 4 == 2) = false := by simpa using q3
                  have r1 := fun W (F : Nat → Prop) g a n c b m d (hF : ∀ b, F b → b < W.heap.size) (l : PList W F g a n c b m d (E)) => H.ready F (E) g a b n c m d W hF l (by have := l.p.length; omega) (by have := l.z.length; omega)
                  unfold RdyPost at r1
                  cases hr1 : readyB E
                  · skip
                    rw [hr1] at r1
                    have RD1 := Lib.hid r1
                    generalize readyZ E = RZ0 at *
                    clear r1 hr1
                    have HG2 := HG
                    have hE2 := hE
                    have t8 : decide (g < g) = false := by simp
                    go_wp2_with (first
                      | ((with_reducible refine Plan.load_lit 25 (.tmp 8) (X) ?_ D.hX Try.underlying25 ?_ ?_ ?_); (· rfl); (· rfl); (· exact epo_info); simp only [Act.put, List.setIfInBounds_toArray, List.set_cons_zero, List.set_cons_succ])
                      | (go_at_call 22; ((with_reducible refine (RD1.out _ _ _ _ _ _ _ _ _ (fun _ h => h.2) D.ll.cut).mono ?_); rintro r9 w8 ⟨rfl, h9⟩; have D9 := D.on h9; clear D h9 c0; have D := D9; clear D9; have c0 := D.rows.1)))
                    go_roundw
                    case rel => exact ⟨j + 1, E, _, _, _, _, _, _, by go_num, by omega, HG2, hE2, D⟩
                    case measure => simp [intOf]; omega
                  · skip
                    rw [hr1] at r1
                    have RD1 := Lib.hid r1
                    have HG2 := Lib.hid (HG.out.forget (readyZ E))
                    have hE2 : (forgetE E (readyZ E)).zones.length ≤ 31 := by have : (forgetE E (readyZ E)).zones.length ≤ E.zones.length := (by unfold forgetE; split; exact List.length_filter_le _ _; exact Nat.le_refl _); omega
                    have hE2p : (forgetE E (readyZ E)).pins.length = xn := HG2.out.l
                    have hE2g : g ≤ (forgetE E (readyZ E)).glob := by rw [forget_glob]; omega
                    have f1 := fun W (F : Nat → Prop) g a n c b m d (hF : ∀ b, F b → b < W.heap.size) (l : PList W F g a n c b m d (E)) => H.forget F (E) (readyZ E) g a b n c m d W hF l (by have := l.p.length; omega) (by have := l.z.length; omega)
                    unfold EpoPost at f1
                    generalize forgetB E (readyZ E) = PB at f1
                    generalize forgetE E (readyZ E) = E2 at *
                    generalize readyZ E = RZ0 at *
                    have F1 := Lib.hid f1
                    clear f1 r1 hr1
                    have HNR := Lib.hid (fun h => HG2.out.not h)
                    have rd := fun W (F : Nat → Prop) g a n c b m d (hF : ∀ b, F b → b < W.heap.size) (l : PList W F g a n c b m d (E2)) => H.ready F (E2) g a b n c m d W hF l (by have := l.p.length; omega) (by have := l.z.length; omega)
                    unfold RdyPost at rd
                    cases hrb : readyB E2
                    · rw [hrb] at rd
                      have RD2 := Lib.hid rd
                      generalize readyZ E2 = RZ at *
                      clear rd hrb HNR
                      go_wp2_with (first
                        | ((with_reducible refine Plan.load_lit 25 (.tmp 8) (X) ?_ D.hX Try.underlying25 ?_ ?_ ?_); (· rfl); (· rfl); (· exact epo_info); simp only [Act.put, List.setIfInBounds_toArray, List.set_cons_zero, List.set_cons_succ])
                        | (go_at_call 22; ((with_reducible refine (RD1.out _ _ _ _ _ _ _ _ _ (fun _ h => h.2) D.ll.cut).mono ?_); rintro r9 w8 ⟨rfl, h9⟩; have D9 := D.on h9; clear D h9 c0; have D := D9; clear D9; have c0 := D.rows.1))
                        | (go_at_call 23; ((with_reducible refine (F1.out _ _ _ _ _ _ _ _ _ (fun _ h => h.2) D.ll.cut).mono ?_); rintro r9 w6 ⟨xg, xa, xn1, xc, xb, xm, xd, rfl, lx, h9⟩; have l5 := D.res lx; have hg9 := lx.hg; have t8 : decide (xg < g) = false := (by simp; omega); have D9 := D.on h9; clear D lx h9 F1; have D := D9; clear D9))
                        | ((with_reducible refine Plan.store_lit 25 (.tmp 8) _ X ?_ D.hX ?_ ?_ ?_ ?_ ?_ ?_); rotate_left; (· rfl); (· rfl); (· exact epo_info); (· rfl); (· simp [Value.oneCell']); simp only [Act.put]; have D9 := D.put l5; generalize w6.setRow X #[.int .i64 xg, .slice xa xn1 xc, .slice xb xm xd] = w6 at *; clear D l5; have D := D9; clear D9)
                        | (go_at_call 22; ((with_reducible refine (RD2.out _ _ _ _ _ _ _ _ _ (fun _ h => h.2) D.ll.cut).mono ?_); rintro r9 w8 ⟨rfl, h9⟩; have D9 := D.on h9; clear D h9 c0; have D := D9; clear D9; have c0 := D.rows.1)))
                      have hxl := D.ll.p.length
                      obtain rfl : xn1 = xn := by omega
                      go_roundw
                      case rel => exact ⟨j + 1, E2, _, _, _, _, _, _, by go_num, by omega, HG2, hE2, D⟩
                      case measure => simp [intOf]; omega
                    · rw [hrb] at rd
                      have hnr := HNR.out hrb
                      have RD2 := Lib.hid rd
                      generalize readyZ E2 = RZ at *
                      have t9 : (RZ == 99) = false := by simpa using hnr
                      clear rd hrb HNR hnr
                      go_wp2_with (first
                        | ((with_reducible refine Plan.load_lit 25 (.tmp 8) (X) ?_ D.hX Try.underlying25 ?_ ?_ ?_); (· rfl); (· rfl); (· exact epo_info); simp only [Act.put, List.setIfInBounds_toArray, List.set_cons_zero, List.set_cons_succ])
                        | (go_at_call 22; ((with_reducible refine (RD1.out _ _ _ _ _ _ _ _ _ (fun _ h => h.2) D.ll.cut).mono ?_); rintro r9 w8 ⟨rfl, h9⟩; have D9 := D.on h9; clear D h9 c0; have D := D9; clear D9; have c0 := D.rows.1))
                        | (go_at_call 23; ((with_reducible refine (F1.out _ _ _ _ _ _ _ _ _ (fun _ h => h.2) D.ll.cut).mono ?_); rintro r9 w6 ⟨xg, xa, xn1, xc, xb, xm, xd, rfl, lx, h9⟩; have l5 := D.res lx; have hg9 := lx.hg; have t8 : decide (xg < g) = false := (by simp; omega); have D9 := D.on h9; clear D lx h9 F1; have D := D9; clear D9))
                        | ((with_reducible refine Plan.store_lit 25 (.tmp 8) _ X ?_ D.hX ?_ ?_ ?_ ?_ ?_ ?_); rotate_left; (· rfl); (· rfl); (· exact epo_info); (· rfl); (· simp [Value.oneCell']); simp only [Act.put]; have D9 := D.put l5; generalize w6.setRow X #[.int .i64 xg, .slice xa xn1 xc, .slice xb xm xd] = w6 at *; clear D l5; have D := D9; clear D9)
                        | (go_at_call 22; ((with_reducible refine (RD2.out _ _ _ _ _ _ _ _ _ (fun _ h => h.2) D.ll.cut).mono ?_); rintro r9 w8 ⟨rfl, h9⟩; have D9 := D.on h9; clear D h9 c0; have D := D9; clear D9; have c0 := D.rows.1)))
                      have hxl := D.ll.p.length
                      obtain rfl : xn1 = xn := by omega
                      go_roundw
                      case rel => exact ⟨j + 1, E2, _, _, _, _, _, _, by go_num, by omega, HG2, hE2, D⟩
                      case measure => simp [intOf]; omega
              · obtain rfl : j = l2 := by omega
                have hjI : ¬ (j : Int) < (j : Int) := by omega
                have hva := HG.out.v
                have hxn : xn ≤ 4 := hn2
                have v1 := fun W (F : Nat → Prop) g a n c b m d (hF : ∀ b, F b → b < W.heap.size) (l : PList W F g a n c b m d E) => H.valid F E g a b n c m d W hF l (by have := l.p.length; have := HG.out.l; omega) (by have := l.z.length; omega)
                rw [hva] at v1
                have V1 := Lib.hid v1
                clear v1 hva
                go_wp2_with (first
                  | ((with_reducible refine Plan.load_lit 25 (.tmp 8) (X) ?_ D.hX Try.underlying25 ?_ ?_ ?_); (· rfl); (· rfl); (· exact epo_info); simp only [Act.put, List.setIfInBounds_toArray, List.set_cons_zero, List.set_cons_succ])
                  | (go_at_call 24; ((with_reducible refine (V1.out _ _ _ _ _ _ _ _ _ (fun _ h => h.2) D.ll.cut).mono ?_); rintro r9 w6 ⟨rfl, h9⟩; have D9 := D.on h9; clear D h9 V1; have D := D9; clear D9))
                  | (go_at_call 8; ((with_reducible refine (HW.out _).mono ?_); rintro r9 w6 ⟨rfl, h9⟩; have D9 := D.on h9; clear D h9; have D := D9; clear D9)))
                go_ret
                exact ⟨rfl, D.hb⟩
        · obtain rfl : i = 30 := by omega
          have hiI : ¬ ((30 : Nat) : Int) < 30 := by omega
          have HF := Lib.hid F0
          clear F0
          have GS := grace_start HF.out
          have hq := HF.out
          have hUl : (unpinE E 0).pins.length = E.pins.length ∧ (unpinE E 0).zones = E.zones := by unfold unpinE; split <;> simp [pinned]
          have hVl : (pinE (unpinE E 0) 0).pins.length = E.pins.length ∧ (pinE (unpinE E 0) 0).zones = E.zones := by rw [← hUl.1, ← hUl.2]; generalize unpinE E 0 = U; unfold pinE; split <;> simp [pinned]
          have hRl : (retireE (pinE (unpinE E 0) 0) 99).zones.length ≤ 31 := by
            have h1 : ∀ V : Epo, (retireE V 99).zones.length ≤ V.zones.length + 1 := fun V => by unfold retireE; split <;> simp
            have h2 := h1 (pinE (unpinE E 0) 0)
            rw [hVl.2] at h2
            have := hq.k
            omega
          have hz0 : E.zones.length ≤ 30 := by have := hq.k; omega
          have hp0 : E.pins.length ≤ 4 := by have := hq.l; omega
          have hU2 : (unpinE E 0).pins.length ≤ 4 ∧ (unpinE E 0).zones.length ≤ 30 := by rw [hUl.1, hUl.2]; exact ⟨hp0, hz0⟩
          have hV2 : (pinE (unpinE E 0) 0).pins.length ≤ 4 ∧ (pinE (unpinE E 0) 0).zones.length ≤ 30 := by rw [hVl.1, hVl.2]; exact ⟨hp0, hz0⟩
          have u1 := fun W (F : Nat → Prop) g a n c b m d (hF : ∀ b, F b → b < W.heap.size) (l : PList W F g a n c b m d (E)) => H.unpin F (E) 0 g a b n c m d W hF l (by have := l.p.length; omega) (by have := l.z.length; omega)
          have p1 := fun W (F : Nat → Prop) g a n c b m d (hF : ∀ b, F b → b < W.heap.size) (l : PList W F g a n c b m d (unpinE E 0)) => H.pin F (unpinE E 0) 0 g a b n c m d W hF l (by have := l.p.length; omega) (by have := l.z.length; omega)
          have r1 := fun W (F : Nat → Prop) g a n c b m d (hF : ∀ b, F b → b < W.heap.size) (l : PList W F g a n c b m d (pinE (unpinE E 0) 0)) => H.retire F (pinE (unpinE E 0) 0) 99 g a b n c m d W hF l (by have := l.p.length; omega) (by have := l.z.length; omega)
          unfold EpoPost at u1 p1 r1
          obtain ⟨g1, g2, GR⟩ := GS
          simp only [g1] at p1
          simp only [g2] at r1
          generalize retireE (pinE (unpinE E 0) 0) 99 = ER at *
          generalize pinE (unpinE E 0) 0 = EV at *
          generalize (unpinE E 0).glob = G at *
          generalize unpinE E 0 = EU at *
          generalize unpinB E 0 = UB at *
          have U1 := Lib.hid u1
          have P1 := Lib.hid p1
          have R1 := Lib.hid r1
          have HGR := Lib.hid GR
          clear u1 p1 r1 g1 g2 GR hq hUl hVl HF hU2 hV2 hz0 hp0
          go_wp2_with (first
            | (go_at_call 14; ((with_reducible refine (rest_dice _ _ _ _ _ D.dd HLL.out (by omega)).mono ?_); rintro r9 w9 ⟨rfl, rfl⟩; have D9 := D.drew; clear D; have D := D9; clear D9))
            | ((with_reducible refine Plan.load_lit 25 (.tmp 8) (X) ?_ D.hX Try.underlying25 ?_ ?_ ?_); (· rfl); (· rfl); (· exact epo_info); simp only [Act.put, List.setIfInBounds_toArray, List.set_cons_zero, List.set_cons_succ])
            | (go_at_call 18; ((with_reducible refine (U1.out _ _ _ _ _ _ _ _ _ (fun _ h => h.2) D.ll.cut).mono ?_); rintro r9 w6 ⟨xg, xa, xn, xc, xb, xm, xd, rfl, lx, h9⟩; have l5 := D.res lx; have D9 := D.on h9; clear D lx h9 U1; have D := D9; clear D9))
            | (go_at_call 19; ((with_reducible refine (P1.out _ _ _ _ _ _ _ _ _ (fun _ h => h.2) D.ll.cut).mono ?_); rintro r9 w6 ⟨xg, xa, xn, xc, xb, xm, xd, rfl, lx, h9⟩; have l5 := D.res lx; have D9 := D.on h9; clear D lx h9 P1; have D := D9; clear D9))
            | (go_at_call 20; ((with_reducible refine (R1.out _ _ _ _ _ _ _ _ _ (fun _ h => h.2) D.ll.cut).mono ?_); rintro r9 w6 ⟨xg, xa, xn, xc, xb, xm, xd, rfl, lx, h9⟩; have l5 := D.res lx; have D9 := D.on h9; clear D lx h9 R1; have D := D9; clear D9))
            | ((with_reducible refine Plan.store_lit 25 (.tmp 8) _ X ?_ D.hX ?_ ?_ ?_ ?_ ?_ ?_); rotate_left; (· rfl); (· rfl); (· exact epo_info); (· rfl); (· simp [Value.oneCell']); simp only [Act.put]; have D9 := D.put l5; generalize w6.setRow X #[.int .i64 xg, .slice xa xn xc, .slice xb xm xd] = w6 at *; clear D l5; have D := D9; clear D9))
          have hxn := D.ll.p.length
          have hGl := HGR.out.l
          obtain rfl : xn = yn := by omega
          clear hxn hGl
          go_loopw [14] (fun x wr => ∃ (j : Nat) (E : Epo) (g : Int) (a b : Option Addr) (c m d : Nat), x = .int .i64 (j : Int) ∧ j ≤ l2 ∧ RowKit.Hid (Grace E xn G) ∧ E.zones.length ≤ 31 ∧ EDie w wr X base q LL k g a b xn c m d E) (fun x _ => l2 - (intOf x).toNat)
          case atStart => exact ⟨0, ER, _, _, _, _, _, _, rfl, by omega, HGR, hRl, D⟩
          case round =>
            clear D HGR hRl
            obtain ⟨j, E, g, a, b, c, m, d, rfl, hj, HG, hE, D⟩ := hrel
            by_cases hlt : j < l2
            · obtain ⟨x, B, rfl, hcw, hB1, hB2⟩ := HBY.out j hlt
              have hcb := hcw _ D.hb
              have hjI : (j : Int) < (l2 : Int) := by omega
              have c0 := D.rows.1
              have hxn : xn ≤ 4 := hn2
              have hEp := HG.out.l
              have hEg := D.ll.hg
              obtain ⟨SL, hSL⟩ : ∃ SL : Int, 1 + (B / 4) % ((xn : Int) - 1) = SL := ⟨_, rfl⟩
              have hS1 : 1 ≤ SL := by
                have h5 := Int.emod_nonneg (B / 4) (show (xn : Int) - 1 ≠ 0 by omega)
                omega
              rcases (show (B % 4 = 0) ∨ (B % 4 ≠ 0 ∧ B % 4 = 1) ∨ (B % 4 ≠ 0 ∧ B % 4 ≠ 1 ∧ B % 4 = 2) ∨ (B % 4 ≠ 0 ∧ B % 4 ≠ 1 ∧ B % 4 ≠ 2) by omega) with q1 | ⟨q1, q2⟩ | ⟨q1, q2, q3⟩ | ⟨q1, q2, q3⟩
              · skip
                have t0 : (B % 4 == 0) = true := by simpa using q1
                have HG2 := Lib.hid (HG.out.pin hS1)
                have hE2 : (pinE E SL).zones.length ≤ 31 := by have : (pinE E SL).zones = E.zones := (by unfold pinE; split <;> rfl); rw [this]; exact hE
                have hE2p : (pinE E SL).pins.length = xn := HG2.out.l
                have hE2g : g ≤ (pinE E SL).glob := by rw [pin_glob]; omega
                have f1 := fun W (F : Nat → Prop) g a n c b m d (hF : ∀ b, F b → b < W.heap.size) (l : PList W F g a n c b m d (E)) => H.pin F (E) SL g a b n c m d W hF l (by have := l.p.length; omega) (by have := l.z.length; omega)
                unfold EpoPost at f1
                generalize pinB E SL = PB at f1
                generalize pinE E SL = E2 at *
                have F1 := Lib.hid f1
                clear f1
                have HNR := Lib.hid (fun h => HG2.out.not h)
                have rd := fun W (F : Nat → Prop) g a n c b m d (hF : ∀ b, F b → b < W.heap.size) (l : PList W F g a n c b m d (E2)) => H.ready F (E2) g a b n c m d W hF l (by have := l.p.length; omega) (by have := l.z.length; omega)
                unfold RdyPost at rd
                cases hrb : readyB E2
                · rw [hrb] at rd
                  have RD2 := Lib.hid rd
                  generalize readyZ E2 = RZ at *
                  clear rd hrb HNR
                  go_wp2_with fail
                  refine Plan.start (fun W => W.cell? (x.add j) = some (.int .u8 B)) [(1, true), (2, true), (3, true), (4, true), (5, true), (6, true), (7, true), (8, true), (9, true), (10, true), (0, false), (11, false), (12, true), (13, true), (14, true), (15, false)] (by kernel_rfl) (by kernel_rfl) (by kernel_rfl) (by kernel_rfl) (hcw _ D.drew.hb) ?_
                  simp only [List.map_cons, List.map_nil, List.getElem?_toArray, List.getElem?_cons_zero, List.getElem?_cons_succ]
                  repeat (first | (refine Plan.take ?_ (by rfl) ?_ ?_; rotate_left; (· rintro w9 u3; go_simp; (try rw [if_neg (by omega)]); all_goals (with_reducible rfl)); simp only [Act.put, List.setIfInBounds_toArray, List.set_cons_zero, List.set_cons_succ]) | (refine Plan.pass (by rfl) ?_; simp only [Act.put, List.setIfInBounds_toArray, List.set_cons_zero, List.set_cons_succ]))
                  have D9 := D.drew
                  clear D
                  have D := D9
                  clear D9
                  obtain ⟨r0, r1, r2⟩ := D.rows
                  refine Plan.make (by rfl) (epoV g a xn c b m d) _ ?_ (hcw _ D.hb) ?_
                  · go_simp
                  clear r0 r1 r2
                  simp only [Act.put, List.setIfInBounds_toArray, List.set_cons_zero, List.set_cons_succ]
                  repeat (first | (refine Plan.take ?_ (by rfl) ?_ ?_; rotate_left; (· rintro w9 u3; go_simp; (try rw [if_neg (by omega)]); all_goals (with_reducible rfl)); simp only [Act.put, List.setIfInBounds_toArray, List.set_cons_zero, List.set_cons_succ]) | (refine Plan.pass (by rfl) ?_; simp only [Act.put, List.setIfInBounds_toArray, List.set_cons_zero, List.set_cons_succ]))
                  refine Plan.call (by rfl) 19 #[epoV g a xn c b m d, .int .i64 SL] ?_ (F1.out _ _ _ _ _ _ _ _ _ (fun _ h => h.2) D.ll.cut) ?_
                  · go_simp
                    exact slot_is hB1 hB2 (by omega) (by omega) hSL
                  rintro r9 w6 ⟨xg, xa, xn1, xc, xb, xm, xd, rfl, lx, h9⟩
                  have l5 := D.res lx
                  have hg9 := lx.hg
                  have D9 := D.on h9
                  clear D lx h9
                  have D := D9
                  clear D9
                  refine ⟨_, rfl, hcw _ D.hb, ?_⟩
                  simp only [Act.put, List.setIfInBounds_toArray, List.set_cons_zero, List.set_cons_succ]
                  repeat (first | (refine Plan.take ?_ (by rfl) ?_ ?_; rotate_left; (· rintro w9 u3; go_simp; (try rw [if_neg (by omega)]); all_goals (with_reducible rfl)); simp only [Act.put, List.setIfInBounds_toArray, List.set_cons_zero, List.set_cons_succ]) | (refine Plan.pass (by rfl) ?_; simp only [Act.put, List.setIfInBounds_toArray, List.set_cons_zero, List.set_cons_succ]))
                  have D9 := D.put l5
                  refine Plan.store (by rfl) 25 (.tmp 8) (.tmp 123) rfl X #[.int .i64 xg, .slice xa xn1 xc, .slice xb xm xd] rfl rfl 25 _ D.hX epo_info rfl (by simp [Value.oneCell']) (hcw _ D9.hb) ?_
                  simp only [Act.put]
                  repeat (first | (refine Plan.take ?_ (by rfl) ?_ ?_; rotate_left; (· rintro w9 u3; go_simp; (try rw [if_neg (by omega)]); all_goals (with_reducible rfl)); simp only [Act.put, List.setIfInBounds_toArray, List.set_cons_zero, List.set_cons_succ]) | (refine Plan.pass (by rfl) ?_; simp only [Act.put, List.setIfInBounds_toArray, List.set_cons_zero, List.set_cons_succ]))
                  refine Plan.ends ?_
                  clear D l5 c0
                  have D := D9
                  clear D9
                  generalize w6.setRow X #[.int .i64 xg, .slice xa xn1 xc, .slice xb xm xd] = w9 at *
                  have hxl := D.ll.p.length
                  obtain rfl : xn1 = xn := by omega
                  have t8 : decide (xg < g) = false := by simp; omega
                  have c0 := D.rows.1
                  go_wp2_with (first
                    | ((with_reducible refine Plan.load_lit 25 (.tmp 8) (X) ?_ D.hX Try.underlying25 ?_ ?_ ?_); (· rfl); (· rfl); (· exact epo_info); simp only [Act.put, List.setIfInBounds_toArray, List.set_cons_zero, List.set_cons_succ])
                    | (go_at_call 22; ((with_reducible refine (RD2.out _ _ _ _ _ _ _ _ _ (fun _ h => h.2) D.ll.cut).mono ?_); rintro r9 w8 ⟨rfl, h9⟩; have D9 := D.on h9; clear D h9 c0; have D := D9; clear D9; have c0 := D.rows.1)))
                  go_roundw
                  case rel => exact ⟨j + 1, E2, _, _, _, _, _, _, by go_num, by omega, HG2, hE2, D⟩
                  case measure => simp [intOf]; omega
                · rw [hrb] at rd
                  have hnr := HNR.out hrb
                  have RD2 := Lib.hid rd
                  generalize readyZ E2 = RZ at *
                  have t9 : (RZ == 99) = false := by simpa using hnr
                  clear rd hrb HNR hnr
                  go_wp2_with fail
                  refine Plan.start (fun W => W.cell? (x.add j) = some (.int .u8 B)) [(1, true), (2, true), (3, true), (4, true), (5, true), (6, true), (7, true), (8, true), (9, true), (10, true), (0, false), (11, false), (12, true), (13, true), (14, true), (15, false)] (by kernel_rfl) (by kernel_rfl) (by kernel_rfl) (by kernel_rfl) (hcw _ D.drew.hb) ?_
                  simp only [List.map_cons, List.map_nil, List.getElem?_toArray, List.getElem?_cons_zero, List.getElem?_cons_succ]
                  repeat (first | (refine Plan.take ?_ (by rfl) ?_ ?_; rotate_left; (· rintro w9 u3; go_simp; (try rw [if_neg (by omega)]); all_goals (with_reducible rfl)); simp only [Act.put, List.setIfInBounds_toArray, List.set_cons_zero, List.set_cons_succ]) | (refine Plan.pass (by rfl) ?_; simp only [Act.put, List.setIfInBounds_toArray, List.set_cons_zero, List.set_cons_succ]))
                  have D9 := D.drew
                  clear D
                  have D := D9
                  clear D9
                  obtain ⟨r0, r1, r2⟩ := D.rows
                  refine Plan.make (by rfl) (epoV g a xn c b m d) _ ?_ (hcw _ D.hb) ?_
                  · go_simp
                  clear r0 r1 r2
                  simp only [Act.put, List.setIfInBounds_toArray, List.set_cons_zero, List.set_cons_succ]
                  repeat (first | (refine Plan.take ?_ (by rfl) ?_ ?_; rotate_left; (· rintro w9 u3; go_simp; (try rw [if_neg (by omega)]); all_goals (with_reducible rfl)); simp only [Act.put, List.setIfInBounds_toArray, List.set_cons_zero, List.set_cons_succ]) | (refine Plan.pass (by rfl) ?_; simp only [Act.put, List.setIfInBounds_toArray, List.set_cons_zero, List.set_cons_succ]))
                  refine Plan.call (by rfl) 19 #[epoV g a xn c b m d, .int .i64 SL] ?_ (F1.out _ _ _ _ _ _ _ _ _ (fun _ h => h.2) D.ll.cut) ?_
                  · go_simp
                    exact slot_is hB1 hB2 (by omega) (by omega) hSL
                  rintro r9 w6 ⟨xg, xa, xn1, xc, xb, xm, xd, rfl, lx, h9⟩
                  have l5 := D.res lx
                  have hg9 := lx.hg
                  have D9 := D.on h9
                  clear D lx h9
                  have D := D9
                  clear D9
                  refine ⟨_, rfl, hcw _ D.hb, ?_⟩
                  simp only [Act.put, List.setIfInBounds_toArray, List.set_cons_zero, List.set_cons_succ]
                  repeat (first | (refine Plan.take ?_ (by rfl) ?_ ?_; rotate_left; (· rintro w9 u3; go_simp; (try rw [if_neg (by omega)]); all_goals (with_reducible rfl)); simp only [Act.put, List.setIfInBounds_toArray, List.set_cons_zero, List.set_cons_succ]) | (refine Plan.pass (by rfl) ?_; simp only [Act.put, List.setIfInBounds_toArray, List.set_cons_zero, List.set_cons_succ]))
                  have D9 := D.put l5
                  refine Plan.store (by rfl) 25 (.tmp 8) (.tmp 123) rfl X #[.int .i64 xg, .slice xa xn1 xc, .slice xb xm xd] rfl rfl 25 _ D.hX epo_info rfl (by simp [Value.oneCell']) (hcw _ D9.hb) ?_
                  simp only [Act.put]
                  repeat (first | (refine Plan.take ?_ (by rfl) ?_ ?_; rotate_left; (· rintro w9 u3; go_simp; (try rw [if_neg (by omega)]); all_goals (with_reducible rfl)); simp only [Act.put, List.setIfInBounds_toArray, List.set_cons_zero, List.set_cons_succ]) | (refine Plan.pass (by rfl) ?_; simp only [Act.put, List.setIfInBounds_toArray, List.set_cons_zero, List.set_cons_succ]))
                  refine Plan.ends ?_
                  clear D l5 c0
                  have D := D9
                  clear D9
                  generalize w6.setRow X #[.int .i64 xg, .slice xa xn1 xc, .slice xb xm xd] = w9 at *
                  have hxl := D.ll.p.length
                  obtain rfl : xn1 = xn := by omega
                  have t8 : decide (xg < g) = false := by simp; omega
                  have c0 := D.rows.1
                  go_wp2_with (first
                    | ((with_reducible refine Plan.load_lit 25 (.tmp 8) (X) ?_ D.hX Try.underlying25 ?_ ?_ ?_); (· rfl); (· rfl); (· exact epo_info); simp only [Act.put, List.setIfInBounds_toArray, List.set_cons_zero, List.set_cons_succ])
                    | (go_at_call 22; ((with_reducible refine (RD2.out _ _ _ _ _ _ _ _ _ (fun _ h => h.2) D.ll.cut).mono ?_); rintro r9 w8 ⟨rfl, h9⟩; have D9 := D.on h9; clear D h9 c0; have D := D9; clear D9; have c0 := D.rows.1)))
                  go_roundw
                  case rel => exact ⟨j + 1, E2, _, _, _, _, _, _, by go_num, by omega, HG2, hE2, D⟩
                  case measure => simp [intOf]; omega
              · skip
                have t0 : (B % 4 == 0) = false := by simpa using q1
                have t1 : (B % 4 == 1) = true := by simpa using q2
                have HG2 := Lib.hid (HG.out.unpin hS1)
                have hE2 : (unpinE E SL).zones.length ≤ 31 := by have : (unpinE E SL).zones = E.zones := (by unfold unpinE; split <;> rfl); rw [this]; exact hE
                have hE2p : (unpinE E SL).pins.length = xn := HG2.out.l
                have hE2g : g ≤ (unpinE E SL).glob := by rw [unpin_glob]; omega
                have f1 := fun W (F : Nat → Prop) g a n c b m d (hF : ∀ b, F b → b < W.heap.size) (l : PList W F g a n c b m d (E)) => H.unpin F (E) SL g a b n c m d W hF l (by have := l.p.length; omega) (by have := l.z.length; omega)
                unfold EpoPost at f1
                generalize unpinB E SL = PB at f1
                generalize unpinE E SL = E2 at *
                have F1 := Lib.hid f1
                clear f1
                have HNR := Lib.hid (fun h => HG2.out.not h)
                have rd := fun W (F : Nat → Prop) g a n c b m d (hF : ∀ b, F b → b < W.heap.size) (l : PList W F g a n c b m d (E2)) => H.ready F (E2) g a b n c m d W hF l (by have := l.p.length; omega) (by have := l.z.length; omega)
                unfold RdyPost at rd
                cases hrb : readyB E2
                · rw [hrb] at rd
                  have RD2 := Lib.hid rd
                  generalize readyZ E2 = RZ at *
                  clear rd hrb HNR
                  go_wp2_with fail
                  refine Plan.start (fun W => W.cell? (x.add j) = some (.int .u8 B)) [(1, true), (2, true), (3, true), (4, true), (5, true), (6, true), (7, true), (8, true), (9, true), (10, true), (0, false), (11, false), (12, true), (13, true), (14, true), (15, false)] (by kernel_rfl) (by kernel_rfl) (by kernel_rfl) (by kernel_rfl) (hcw _ D.drew.hb) ?_
                  simp only [List.map_cons, List.map_nil, List.getElem?_toArray, List.getElem?_cons_zero, List.getElem?_cons_succ]
                  repeat (first | (refine Plan.take ?_ (by rfl) ?_ ?_; rotate_left; (· rintro w9 u3; go_simp; (try rw [if_neg (by omega)]); all_goals (with_reducible rfl)); simp only [Act.put, List.setIfInBounds_toArray, List.set_cons_zero, List.set_cons_succ]) | (refine Plan.pass (by rfl) ?_; simp only [Act.put, List.setIfInBounds_toArray, List.set_cons_zero, List.set_cons_succ]))
                  have D9 := D.drew
                  clear D
                  have D := D9
                  clear D9
                  obtain ⟨r0, r1, r2⟩ := D.rows
                  refine Plan.make (by rfl) (epoV g a xn c b m d) _ ?_ (hcw _ D.hb) ?_
                  · go_simp
                  clear r0 r1 r2
                  simp only [Act.put, List.setIfInBounds_toArray, List.set_cons_zero, List.set_cons_succ]
                  repeat (first | (refine Plan.take ?_ (by rfl) ?_ ?_; rotate_left; (· rintro w9 u3; go_simp; (try rw [if_neg (by omega)]); all_goals (with_reducible rfl)); simp only [Act.put, List.setIfInBounds_toArray, List.set_cons_zero, List.set_cons_succ]) | (refine Plan.pass (by rfl) ?_; simp only [Act.put, List.setIfInBounds_toArray, List.set_cons_zero, List.set_cons_succ]))
                  refine Plan.call (by rfl) 18 #[epoV g a xn c b m d, .int .i64 SL] ?_ (F1.out _ _ _ _ _ _ _ _ _ (fun _ h => h.2) D.ll.cut) ?_
                  · go_simp
                    exact slot_is hB1 hB2 (by omega) (by omega) hSL
                  rintro r9 w6 ⟨xg, xa, xn1, xc, xb, xm, xd, rfl, lx, h9⟩
                  have l5 := D.res lx
                  have hg9 := lx.hg
                  have D9 := D.on h9
                  clear D lx h9
                  have D := D9
                  clear D9
                  refine ⟨_, rfl, hcw _ D.hb, ?_⟩
                  simp only [Act.put, List.setIfInBounds_toArray, List.set_cons_zero, List.set_cons_succ]
                  repeat (first | (refine Plan.take ?_ (by rfl) ?_ ?_; rotate_left; (· rintro w9 u3; go_simp; (try rw [if_neg (by omega)]); all_goals (with_reducible rfl)); simp only [Act.put, List.setIfInBounds_toArray, List.set_cons_zero, List.set_cons_succ]) | (refine Plan.pass (by rfl) ?_; simp only [Act.put, List.setIfInBounds_toArray, List.set_cons_zero, List.set_cons_succ]))
                  have D9 := D.put l5
                  refine Plan.store (by rfl) 25 (.tmp 8) (.tmp 140) rfl X #[.int .i64 xg, .slice xa xn1 xc, .slice xb xm xd] rfl rfl 25 _ D.hX epo_info rfl (by simp [Value.oneCell']) (hcw _ D9.hb) ?_
                  simp only [Act.put]
                  repeat (first | (refine Plan.take ?_ (by rfl) ?_ ?_; rotate_left; (· rintro w9 u3; go_simp; (try rw [if_neg (by omega)]); all_goals (with_reducible rfl)); simp only [Act.put, List.setIfInBounds_toArray, List.set_cons_zero, List.set_cons_succ]) | (refine Plan.pass (by rfl) ?_; simp only [Act.put, List.setIfInBounds_toArray, List.set_cons_zero, List.set_cons_succ]))
                  refine Plan.ends ?_
                  clear D l5 c0
                  have D := D9
                  clear D9
                  generalize w6.setRow X #[.int .i64 xg, .slice xa xn1 xc, .slice xb xm xd] = w9 at *
                  have hxl := D.ll.p.length
                  obtain rfl : xn1 = xn := by omega
                  have t8 : decide (xg < g) = false := by simp; omega
                  have c0 := D.rows.1
                  go_wp2_with (first
                    | ((with_reducible refine Plan.load_lit 25 (.tmp 8) (X) ?_ D.hX Try.underlying25 ?_ ?_ ?_); (· rfl); (· rfl); (· exact epo_info); simp only [Act.put, List.setIfInBounds_toArray, List.set_cons_zero, List.set_cons_succ])
                    | (go_at_call 22; ((with_reducible refine (RD2.out _ _ _ _ _ _ _ _ _ (fun _ h => h.2) D.ll.cut).mono ?_); rintro r9 w8 ⟨rfl, h9⟩; have D9 := D.on h9; clear D h9 c0; have D := D9; clear D9; have c0 := D.rows.1)))
                  go_roundw
                  case rel => exact ⟨j + 1, E2, _, _, _, _, _, _, by go_num, by omega, HG2, hE2, D⟩
                  case measure => simp [intOf]; omega
                · rw [hrb] at rd
                  have hnr := HNR.out hrb
                  have RD2 := Lib.hid rd
                  generalize readyZ E2 = RZ at *
                  have t9 : (RZ == 99) = false := by simpa using hnr
                  clear rd hrb HNR hnr
                  go_wp2_with fail
                  refine Plan.start (fun W => W.cell? (x.add j) = some (.int .u8 B)) [(1, true), (2, true), (3, true), (4, true), (5, true), (6, true), (7, true), (8, true), (9, true), (10, true), (0, false), (11, false), (12, true), (13, true), (14, true), (15, false)] (by kernel_rfl) (by kernel_rfl) (by kernel_rfl) (by kernel_rfl) (hcw _ D.drew.hb) ?_
                  simp only [List.map_cons, List.map_nil, List.getElem?_toArray, List.getElem?_cons_zero, List.getElem?_cons_succ]
                  repeat (first | (refine Plan.take ?_ (by rfl) ?_ ?_; rotate_left; (· rintro w9 u3; go_simp; (try rw [if_neg (by omega)]); all_goals (with_reducible rfl)); simp only [Act.put, List.setIfInBounds_toArray, List.set_cons_zero, List.set_cons_succ]) | (refine Plan.pass (by rfl) ?_; simp only [Act.put, List.setIfInBounds_toArray, List.set_cons_zero, List.set_cons_succ]))
                  have D9 := D.drew
                  clear D
                  have D := D9
                  clear D9
                  obtain ⟨r0, r1, r2⟩ := D.rows
                  refine Plan.make (by rfl) (epoV g a xn c b m d) _ ?_ (hcw _ D.hb) ?_
                  · go_simp
                  clear r0 r1 r2
                  simp only [Act.put, List.setIfInBounds_toArray, List.set_cons_zero, List.set_cons_succ]
                  repeat (first | (refine Plan.take ?_ (by rfl) ?_ ?_; rotate_left; (· rintro w9 u3; go_simp; (try rw [if_neg (by omega)]); all_goals (with_reducible rfl)); simp only [Act.put, List.setIfInBounds_toArray, List.set_cons_zero, List.set_cons_succ]) | (refine Plan.pass (by rfl) ?_; simp only [Act.put, List.setIfInBounds_toArray, List.set_cons_zero, List.set_cons_succ]))
                  refine Plan.call (by rfl) 18 #[epoV g a xn c b m d, .int .i64 SL] ?_ (F1.out _ _ _ _ _ _ _ _ _ (fun _ h => h.2) D.ll.cut) ?_
                  · go_simp
                    exact slot_is hB1 hB2 (by omega) (by omega) hSL
                  rintro r9 w6 ⟨xg, xa, xn1, xc, xb, xm, xd, rfl, lx, h9⟩
                  have l5 := D.res lx
                  have hg9 := lx.hg
                  have D9 := D.on h9
                  clear D lx h9
                  have D := D9
                  clear D9
                  refine ⟨_, rfl, hcw _ D.hb, ?_⟩
                  simp only [Act.put, List.setIfInBounds_toArray, List.set_cons_zero, List.set_cons_succ]
                  repeat (first | (refine Plan.take ?_ (by rfl) ?_ ?_; rotate_left; (· rintro w9 u3; go_simp; (try rw [if_neg (by omega)]); all_goals (with_reducible rfl)); simp only [Act.put, List.setIfInBounds_toArray, List.set_cons_zero, List.set_cons_succ]) | (refine Plan.pass (by rfl) ?_; simp only [Act.put, List.setIfInBounds_toArray, List.set_cons_zero, List.set_cons_succ]))
                  have D9 := D.put l5
                  refine Plan.store (by rfl) 25 (.tmp 8) (.tmp 140) rfl X #[.int .i64 xg, .slice xa xn1 xc, .slice xb xm xd] rfl rfl 25 _ D.hX epo_info rfl (by simp [Value.oneCell']) (hcw _ D9.hb) ?_
                  simp only [Act.put]
                  repeat (first | (refine Plan.take ?_ (by rfl) ?_ ?_; rotate_left; (· rintro w9 u3; go_simp; (try rw [if_neg (by omega)]); all_goals (with_reducible rfl)); simp only [Act.put, List.setIfInBounds_toArray, List.set_cons_zero, List.set_cons_succ]) | (refine Plan.pass (by rfl) ?_; simp only [Act.put, List.setIfInBounds_toArray, List.set_cons_zero, List.set_cons_succ]))
                  refine Plan.ends ?_
                  clear D l5 c0
                  have D := D9
                  clear D9
                  generalize w6.setRow X #[.int .i64 xg, .slice xa xn1 xc, .slice xb xm xd] = w9 at *
                  have hxl := D.ll.p.length
                  obtain rfl : xn1 = xn := by omega
                  have t8 : decide (xg < g) = false := by simp; omega
                  have c0 := D.rows.1
                  go_wp2_with (first
                    | ((with_reducible refine Plan.load_lit 25 (.tmp 8) (X) ?_ D.hX Try.underlying25 ?_ ?_ ?_); (· rfl); (· rfl); (· exact epo_info); simp only [Act.put, List.setIfInBounds_toArray, List.set_cons_zero, List.set_cons_succ])
                    | (go_at_call 22; ((with_reducible refine (RD2.out _ _ _ _ _ _ _ _ _ (fun _ h => h.2) D.ll.cut).mono ?_); rintro r9 w8 ⟨rfl, h9⟩; have D9 := D.on h9; clear D h9 c0; have D := D9; clear D9; have c0 := D.rows.1)))
                  go_roundw
                  case rel => exact ⟨j + 1, E2, _, _, _, _, _, _, by go_num, by omega, HG2, hE2, D⟩
                  case measure => simp [intOf]; omega
              · skip
                have t0 : (B % 4 == 0) = false := by simpa using q1
                have t1 : (B % 4 == 1) = false := by simpa using q2
                have t2 : (B % 4 == 2) = true := by simpa using q3
                have HG2 := Lib.hid (HG.out.adv)
                have hE2 : (advE E).zones.length ≤ 31 := by have : (advE E).zones = E.zones := (by unfold advE; split <;> rfl); rw [this]; exact hE
                have hE2p : (advE E).pins.length = xn := HG2.out.l
                have hE2g : g ≤ (advE E).glob := by rcases adv_glob E with h | h <;> omega
                have f1 := fun W (F : Nat → Prop) g a n c b m d (hF : ∀ b, F b → b < W.heap.size) (l : PList W F g a n c b m d (E)) => H.adv F (E) g a b n c m d W hF l (by have := l.p.length; omega) (by have := l.z.length; omega)
                unfold EpoPost at f1
                generalize advB E = PB at f1
                generalize advE E = E2 at *
                have F1 := Lib.hid f1
                clear f1
                have HNR := Lib.hid (fun h => HG2.out.not h)
                have rd := fun W (F : Nat → Prop) g a n c b m d (hF : ∀ b, F b → b < W.heap.size) (l : PList W F g a n c b m d (E2)) => H.ready F (E2) g a b n c m d W hF l (by have := l.p.length; omega) (by have := l.z.length; omega)
                unfold RdyPost at rd
                cases hrb : readyB E2
                · rw [hrb] at rd
                  have RD2 := Lib.hid rd
                  generalize readyZ E2 = RZ at *
                  clear rd hrb HNR
                  go_wp2_with (first
                    | ((with_reducible refine Plan.load_lit 25 (.tmp 8) (X) ?_ D.hX Try.underlying25 ?_ ?_ ?_); (· rfl); (· rfl); (· exact epo_info); simp only [Act.put, List.setIfInBounds_toArray, List.set_cons_zero, List.set_cons_succ])
                    | (go_at_call 21; ((with_reducible refine (F1.out _ _ _ _ _ _ _ _ _ (fun _ h => h.2) D.ll.cut).mono ?_); rintro r9 w6 ⟨xg, xa, xn1, xc, xb, xm, xd, rfl, lx, h9⟩; have l5 := D.res lx; have hg9 := lx.hg; have t8 : decide (xg < g) = false := (by simp; omega); have D9 := D.on h9; clear D lx h9 F1; have D := D9; clear D9))
                    | ((with_reducible refine Plan.store_lit 25 (.tmp 8) _ X ?_ D.hX ?_ ?_ ?_ ?_ ?_ ?_); rotate_left; (· rfl); (· rfl); (· exact epo_info); (· rfl); (· simp [Value.oneCell']); simp only [Act.put]; have D9 := D.put l5; generalize w6.setRow X #[.int .i64 xg, .slice xa xn1 xc, .slice xb xm xd] = w6 at *; clear D l5; have D := D9; clear D9)
                    | (go_at_call 22; ((with_reducible refine (RD2.out _ _ _ _ _ _ _ _ _ (fun _ h => h.2) D.ll.cut).mono ?_); rintro r9 w8 ⟨rfl, h9⟩; have D9 := D.on h9; clear D h9 c0; have D := D9; clear D9; have c0 := D.rows.1)))
                  have hxl := D.ll.p.length
                  obtain rfl : xn1 = xn := by omega
                  go_roundw
                  case rel => exact ⟨j + 1, E2, _, _, _, _, _, _, by go_num, by omega, HG2, hE2, D⟩
                  case measure => simp [intOf]; omega
                · rw [hrb] at rd
                  have hnr := HNR.out hrb
                  have RD2 := Lib.hid rd
                  generalize readyZ E2 = RZ at *
                  have t9 : (RZ == 99) = false := by simpa using hnr
                  clear rd hrb HNR hnr
                  go_wp2_with (first
                    | ((with_reducible refine Plan.load_lit 25 (.tmp 8) (X) ?_ D.hX Try.underlying25 ?_ ?_ ?_); (· rfl); (· rfl); (· exact epo_info); simp only [Act.put, List.setIfInBounds_toArray, List.set_cons_zero, List.set_cons_succ])
                    | (go_at_call 21; ((with_reducible refine (F1.out _ _ _ _ _ _ _ _ _ (fun _ h => h.2) D.ll.cut).mono ?_); rintro r9 w6 ⟨xg, xa, xn1, xc, xb, xm, xd, rfl, lx, h9⟩; have l5 := D.res lx; have hg9 := lx.hg; have t8 : decide (xg < g) = false := (by simp; omega); have D9 := D.on h9; clear D lx h9 F1; have D := D9; clear D9))
                    | ((with_reducible refine Plan.store_lit 25 (.tmp 8) _ X ?_ D.hX ?_ ?_ ?_ ?_ ?_ ?_); rotate_left; (· rfl); (· rfl); (· exact epo_info); (· rfl); (· simp [Value.oneCell']); simp only [Act.put]; have D9 := D.put l5; generalize w6.setRow X #[.int .i64 xg, .slice xa xn1 xc, .slice xb xm xd] = w6 at *; clear D l5; have D := D9; clear D9)
                    | (go_at_call 22; ((with_reducible refine (RD2.out _ _ _ _ _ _ _ _ _ (fun _ h => h.2) D.ll.cut).mono ?_); rintro r9 w8 ⟨rfl, h9⟩; have D9 := D.on h9; clear D h9 c0; have D := D9; clear D9; have c0 := D.rows.1)))
                  have hxl := D.ll.p.length
                  obtain rfl : xn1 = xn := by omega
                  go_roundw
                  case rel => exact ⟨j + 1, E2, _, _, _, _, _, _, by go_num, by omega, HG2, hE2, D⟩
                  case measure => simp [intOf]; omega
              · skip
                have t0 : (B % 4 == 0) = false := by simpa using q1
                have t1 : (B % 4 == 1) = false := by simpa using q2
                have t2 : (B % 4 == 2) = false := by simpa using q3
                have r1 := fun W (F : Nat → Prop) g a n c b m d (hF : ∀ b, F b → b < W.heap.size) (l : PList W F g a n c b m d (E)) => H.ready F (E) g a b n c m d W hF l (by have := l.p.length; omega) (by have := l.z.length; omega)
                unfold RdyPost at r1
                cases hr1 : readyB E
                · skip
                  rw [hr1] at r1
                  have RD1 := Lib.hid r1
                  generalize readyZ E = RZ0 at *
                  clear r1 hr1
                  have HG2 := HG
                  have hE2 := hE
                  have t8 : decide (g < g) = false := by simp
                  go_wp2_with (first
                    | ((with_reducible refine Plan.load_lit 25 (.tmp 8) (X) ?_ D.hX Try.underlying25 ?_ ?_ ?_); (· rfl); (· rfl); (· exact epo_info); simp only [Act.put, List.setIfInBounds_toArray, List.set_cons_zero, List.set_cons_succ])
                    | (go_at_call 22; ((with_reducible refine (RD1.out _ _ _ _ _ _ _ _ _ (fun _ h => h.2) D.ll.cut).mono ?_); rintro r9 w8 ⟨rfl, h9⟩; have D9 := D.on h9; clear D h9 c0; have D := D9; clear D9; have c0 := D.rows.1)))
                  go_roundw
                  case rel => exact ⟨j + 1, E, _, _, _, _, _, _, by go_num, by omega, HG2, hE2, D⟩
                  case measure => simp [intOf]; omega
                · skip
                  rw [hr1] at r1
                  have RD1 := Lib.hid r1
                  have HG2 := Lib.hid (HG.out.forget (readyZ E))
                  have hE2 : (forgetE E (readyZ E)).zones.length ≤ 31 := by have : (forgetE E (readyZ E)).zones.length ≤ E.zones.length := (by unfold forgetE; split; exact List.length_filter_le _ _; exact Nat.le_refl _); omega
                  have hE2p : (forgetE E (readyZ E)).pins.length = xn := HG2.out.l
                  have hE2g : g ≤ (forgetE E (readyZ E)).glob := by rw [forget_glob]; omega
                  have f1 := fun W (F : Nat → Prop) g a n c b m d (hF : ∀ b, F b → b < W.heap.size) (l : PList W F g a n c b m d (E)) => H.forget F (E) (readyZ E) g a b n c m d W hF l (by have := l.p.length; omega) (by have := l.z.length; omega)
                  unfold EpoPost at f1
                  generalize forgetB E (readyZ E) = PB at f1
                  generalize forgetE E (readyZ E) = E2 at *
                  generalize readyZ E = RZ0 at *
                  have F1 := Lib.hid f1
                  clear f1 r1 hr1
                  have HNR := Lib.hid (fun h => HG2.out.not h)
                  have rd := fun W (F : Nat → Prop) g a n c b m d (hF : ∀ b, F b → b < W.heap.size) (l : PList W F g a n c b m d (E2)) => H.ready F (E2) g a b n c m d W hF l (by have := l.p.length; omega) (by have := l.z.length; omega)
                  unfold RdyPost at rd
                  cases hrb : readyB E2
                  · rw [hrb] at rd
                    have RD2 := Lib.hid rd
                    generalize readyZ E2 = RZ at *
                    clear rd hrb HNR
                    go_wp2_with (first
                      | ((with_reducible refine Plan.load_lit 25 (.tmp 8) (X) ?_ D.hX Try.underlying25 ?_ ?_ ?_); (· rfl); (· rfl); (· exact epo_info); simp only [Act.put, List.setIfInBounds_toArray, List.set_cons_zero, List.set_cons_succ])
                      | (go_at_call 22; ((with_reducible refine (RD1.out _ _ _ _ _ _ _ _ _ (fun _ h => h.2) D.ll.cut).mono ?_); rintro r9 w8 ⟨rfl, h9⟩; have D9 := D.on h9; clear D h9 c0; have D := D9; clear D9; have c0 := D.rows.1))
                      | (go_at_call 23; ((with_reducible refine (F1.out _ _ _ _ _ _ _ _ _ (fun _ h => h.2) D.ll.cut).mono ?_); rintro r9 w6 ⟨xg, xa, xn1, xc, xb, xm, xd, rfl, lx, h9⟩; have l5 := D.res lx; have hg9 := lx.hg; have t8 : decide (xg < g) = false := (by simp; omega); have D9 := D.on h9; clear D lx h9 F1; have D := D9; clear D9))
                      | ((with_reducible refine Plan.store_lit 25 (.tmp 8) _ X ?_ D.hX ?_ ?_ ?_ ?_ ?_ ?_); rotate_left; (· rfl); (· rfl); (· exact epo_info); (· rfl); (· simp [Value.oneCell']); simp only [Act.put]; have D9 := D.put l5; generalize w6.setRow X #[.int .i64 xg, .slice xa xn1 xc, .slice xb xm xd] = w6 at *; clear D l5; have D := D9; clear D9)
                      | (go_at_call 22; ((with_reducible refine (RD2.out _ _ _ _ _ _ _ _ _ (fun _ h => h.2) D.ll.cut).mono ?_); rintro r9 w8 ⟨rfl, h9⟩; have D9 := D.on h9; clear D h9 c0; have D := D9; clear D9; have c0 := D.rows.1)))
                    have hxl := D.ll.p.length
                    obtain rfl : xn1 = xn := by omega
                    go_roundw
                    case rel => exact ⟨j + 1, E2, _, _, _, _, _, _, by go_num, by omega, HG2, hE2, D⟩
                    case measure => simp [intOf]; omega
                  · rw [hrb] at rd
                    have hnr := HNR.out hrb
                    have RD2 := Lib.hid rd
                    generalize readyZ E2 = RZ at *
                    have t9 : (RZ == 99) = false := by simpa using hnr
                    clear rd hrb HNR hnr
                    go_wp2_with (first
                      | ((with_reducible refine Plan.load_lit 25 (.tmp 8) (X) ?_ D.hX Try.underlying25 ?_ ?_ ?_); (· rfl); (· rfl); (· exact epo_info); simp only [Act.put, List.setIfInBounds_toArray, List.set_cons_zero, List.set_cons_succ])
                      | (go_at_call 22; ((with_reducible refine (RD1.out _ _ _ _ _ _ _ _ _ (fun _ h => h.2) D.ll.cut).mono ?_); rintro r9 w8 ⟨rfl, h9⟩; have D9 := D.on h9; clear D h9 c0; have D := D9; clear D9; have c0 := D.rows.1))
                      | (go_at_call 23; ((with_reducible refine (F1.out _ _ _ _ _ _ _ _ _ (fun _ h => h.2) D.ll.cut).mono ?_); rintro r9 w6 ⟨xg, xa, xn1, xc, xb, xm, xd, rfl, lx, h9⟩; have l5 := D.res lx; have hg9 := lx.hg; have t8 : decide (xg < g) = false := (by simp; omega); have D9 := D.on h9; clear D lx h9 F1; have D := D9; clear D9))
                      | ((with_reducible refine Plan.store_lit 25 (.tmp 8) _ X ?_ D.hX ?_ ?_ ?_ ?_ ?_ ?_); rotate_left; (· rfl); (· rfl); (· exact epo_info); (· rfl); (· simp [Value.oneCell']); simp only [Act.put]; have D9 := D.put l5; generalize w6.setRow X #[.int .i64 xg, .slice xa xn1 xc, .slice xb xm xd] = w6 at *; clear D l5; have D := D9; clear D9)
                      | (go_at_call 22; ((with_reducible refine (RD2.out _ _ _ _ _ _ _ _ _ (fun _ h => h.2) D.ll.cut).mono ?_); rintro r9 w8 ⟨rfl, h9⟩; have D9 := D.on h9; clear D h9 c0; have D := D9; clear D9; have c0 := D.rows.1)))
                    have hxl := D.ll.p.length
                    obtain rfl : xn1 = xn := by omega
                    go_roundw
                    case rel => exact ⟨j + 1, E2, _, _, _, _, _, _, by go_num, by omega, HG2, hE2, D⟩
                    case measure => simp [intOf]; omega
            · obtain rfl : j = l2 := by omega
              have hjI : ¬ (j : Int) < (j : Int) := by omega
              have hva := HG.out.v
              have hxn : xn ≤ 4 := hn2
              have v1 := fun W (F : Nat → Prop) g a n c b m d (hF : ∀ b, F b → b < W.heap.size) (l : PList W F g a n c b m d E) => H.valid F E g a b n c m d W hF l (by have := l.p.length; have := HG.out.l; omega) (by have := l.z.length; omega)
              rw [hva] at v1
              have V1 := Lib.hid v1
              clear v1 hva
              go_wp2_with (first
                | ((with_reducible refine Plan.load_lit 25 (.tmp 8) (X) ?_ D.hX Try.underlying25 ?_ ?_ ?_); (· rfl); (· rfl); (· exact epo_info); simp only [Act.put, List.setIfInBounds_toArray, List.set_cons_zero, List.set_cons_succ])
                | (go_at_call 24; ((with_reducible refine (V1.out _ _ _ _ _ _ _ _ _ (fun _ h => h.2) D.ll.cut).mono ?_); rintro r9 w6 ⟨rfl, h9⟩; have D9 := D.on h9; clear D h9 V1; have D := D9; clear D9))
                | (go_at_call 8; ((with_reducible refine (HW.out _).mono ?_); rintro r9 w6 ⟨rfl, h9⟩; have D9 := D.on h9; clear D h9; have D := D9; clear D9)))
              go_ret
              exact ⟨rfl, D.hb⟩
  · rw [decide_eq_false hm] at HLT
    go_enter Try.func5, Try.ntmps5
    go_wp2_with (first
      | (go_at_call 9; ((with_reducible refine (HLT.out _).mono ?_); rintro r9 w4 ⟨rfl, rfl⟩))
      | (go_at_call 8; ((with_reducible refine (HW.out _).mono ?_); rintro r9 w6 ⟨rfl, h9⟩; have hb := hb.trans (h9.mono hb.size))))
    go_ret
    exact ⟨rfl, hb⟩
end Go.Proofs.Ytbfoagfemgogkaa.Ents

/- EpochGrace: a zone that was retired while a slot was pinned is not ready as long as this slot stays pinned, whatever else happens, and the epoch never falls. No condition. -/
namespace Go.Proofs.Ytbfoagfemgogkaa.epochGrace
open Go.ChangeShapes Go.WideShapes Go.ChangeAt Go.RowKit
open Go.ChangeMaps (open_string shut_string)
set_option linter.unusedVariables false

theorem own : ownKnob Try.prog.godebug = none := by kernel_rfl
theorem laidOut : laidOutB Try.prog = true := by kernel_rfl

theorem walk (a0 : Int) (w0 : (Lit.int .u8 a0).wf = true) (a1 : Option Addr) (l1 c1 : Nat) (z1 : List Int) (a2 : Option Addr) (l2 c2 : Nat) (z2 : List Int) (w : World) (w1 : IsRow .i64 w a1 l1 c1 z1) (w2 : IsRow .u8 w a2 l2 c2 z2) :
    Calls Try.prog 5 #[.int .u8 a0, .slice a1 l1 c1, .slice a2 l2 c2] w fun e w' => e = .returned (.bool true) ∧ Below w.heap.size w w' := by
  exact Ents.epoGrace_any Ents.epochOk a0 (by have e1 : IntKind.u8.min = 0 := rfl; have e2 : IntKind.u8.max = 255 := rfl; simp only [Lit.wf, decide_eq_true_eq, Bool.and_eq_true] at w0; omega) a1 l1 c1 z1 a2 l2 c2 z2 w w1 w2

set_option maxRecDepth 100000 in
theorem lifted (os : Os) (started : os.Started) (H : Type) (enc : TypeId × Value → H) :
    ReturnsInHanded {} Try.checked os 5 .any (Rows.epochGraceSpec.pre6 enc Try.prog Try.f5 Rows.epochGraceRow.domain false) (Rows.epochGraceSpec.post enc Try.prog Try.f5 false true false false) := by
  refine returnsInHanded_of_change (C := Try.checked) own started (by kernel_rfl) Try.func5
    (ChangeSpec.witness6 (enc := enc) (C := Try.checked) false ⟨#[], #[.int .u8 0, .slice none 0 0, .slice none 0 0], []⟩ 8 (by kernel_rfl) (by kernel_rfl) (by kernel_rfl) (by kernel_rfl)) ?_
  intro W base args ds gs before hval0 hW hcnd _
  have hval : ∀ (j : Nat) t v, Try.f5.params[j]? = some t → args[j]? = some v → Value.okWide Try.prog W .any base t v := hval0
  have hW' := hW
  obtain ⟨p, q, hA0, hV, rfl, hfz, hnd⟩ := hW
  have hA : DataW.TrodAll enc Try.prog W 0 (fun _ => true) true Try.f5.params.toList args.toList ds p := hA0
  rw [Try.params5] at hA hval
  obtain ⟨v0, vs0, d0, ds0, p0, q0, hargs, rfl, rfl, h0, r0⟩ := trodAll_cons hA
  obtain ⟨v1, vs1, d1, ds1, p1, q1, rfl, rfl, rfl, h1, r1⟩ := trodAll_cons r0
  obtain ⟨v2, vs2, d2, ds2, p2, q2, rfl, rfl, rfl, h2, r2⟩ := trodAll_cons r1
  obtain ⟨rfl, rfl, rfl⟩ := trodAll_nil r2
  obtain rfl : args = #[v0, v1, v2] := by cases args; simp_all
  obtain ⟨rfl, rfl⟩ := trodVars_none hV
  have k0' := h0
  have lt0 : ∀ x ∈ p0, x.block < W.heap.size := by obtain ⟨m, hm⟩ := h0; exact DataW.trod_lt m _ _ _ hm
  have k1' := h1
  have lt1 : ∀ x ∈ p1, x.block < W.heap.size := by obtain ⟨m, hm⟩ := h1; exact DataW.trod_lt m _ _ _ hm
  have k2' := h2
  have lt2 : ∀ x ∈ p2, x.block < W.heap.size := by obtain ⟨m, hm⟩ := h2; exact DataW.trod_lt m _ _ _ hm
  obtain ⟨a0, rfl, _, _, w0⟩ := open_int Try.underlying5 (hval 0 5 v0 rfl rfl) h0
  obtain ⟨a1, l1, c1, rfl⟩ := okWide_slice Try.underlying22 (hval 1 22 v1 rfl rfl)
  obtain ⟨z1, w1⟩ : ∃ zs, IsRow .i64 W a1 l1 c1 zs := by
    obtain ⟨fuel, hf⟩ := h1
    rcases open_ints Try.underlying22 Try.underlying3 (by kernel_rfl) hf with ⟨hcs, _⟩ | ⟨x, l, c, zs, hcs, _, hl, hm, hz, _, hcell, hwz⟩
    · simp [Value.cells] at hcs
      obtain ⟨rfl, rfl, rfl⟩ := hcs
      exact ⟨[], .inl ⟨rfl, rfl, rfl, rfl⟩⟩
    · simp [Value.cells] at hcs
      obtain ⟨rfl, rfl, rfl⟩ := hcs
      exact ⟨zs, .inr ⟨_, rfl, hl, hm, by simpa using hz, hcell, hwz⟩⟩
  obtain ⟨a2, l2, c2, rfl⟩ := okWide_slice Try.underlying41 (hval 2 41 v2 rfl rfl)
  obtain ⟨z2, w2⟩ : ∃ zs, IsRow .u8 W a2 l2 c2 zs := by
    obtain ⟨fuel, hf⟩ := h2
    rcases open_ints Try.underlying41 Try.underlying5 (by kernel_rfl) hf with ⟨hcs, _⟩ | ⟨x, l, c, zs, hcs, _, hl, hm, hz, _, hcell, hwz⟩
    · simp [Value.cells] at hcs
      obtain ⟨rfl, rfl, rfl⟩ := hcs
      exact ⟨[], .inl ⟨rfl, rfl, rfl, rfl⟩⟩
    · simp [Value.cells] at hcs
      obtain ⟨rfl, rfl, rfl⟩ := hcs
      exact ⟨zs, .inr ⟨_, rfl, hl, hm, by simpa using hz, hcell, hwz⟩⟩
  clear hA0 hval0
  refine (walk a0 w0 a1 l1 c1 z1 a2 l2 c2 z2 W w1 w2).mono fun e W' ⟨he, bel⟩ => ?_
  subst he
  exact ⟨_, rfl, _, _, _, [], _, [], hW', trodAll_mk1 (shut_bool Try.underlying4 _), (trodAll_cons_mk (Below.trod laidOut (by kernel_rfl) (of_decide_eq_true (by kernel_rfl)) k0' bel lt0) (trodAll_cons_mk (Below.trod laidOut (by kernel_rfl) (of_decide_eq_true (by kernel_rfl)) k1' bel lt1) (trodAll_cons_mk (Below.trod laidOut (by kernel_rfl) (of_decide_eq_true (by kernel_rfl)) k2' bel lt2) trodAll_mk0))), rfl, bel.frame _, fun h => by cases h⟩

theorem over : Rows.epochGraceRow.holds Try.pinned (OpenSpec.ofChange Rows.epochGraceSpec) :=
  OpenClaim.holds_of_wide 5 Try.f5 rfl rfl rfl rfl rfl rfl rfl ⟨rfl, rfl, rfl, rfl, rfl⟩ rfl rfl rfl rfl rfl (by kernel_rfl) Try.func5 (by kernel_rfl)
    (of_decide_eq_true (by kernel_rfl)) (by unfold Func.isWrapper; first | (rw [if_pos (by decide +kernel)]; kernel_rfl) | (rw [if_neg (by decide +kernel)]; exact ⟨rfl, rfl⟩))
    (fun os started H enc _ => lifted os started H enc)
end Go.Proofs.Ytbfoagfemgogkaa.epochGrace

namespace Go.Proofs.Ytbfoagfemgogkaa
theorem epochGrace_holds : Rows.EpochGraceSaid := epochGrace.over
end Go.Proofs.Ytbfoagfemgogkaa
