/- EpochRaw: the program's Pin, Unpin, Retire, Advance, Forget, Ready and Valid answer as the document's own, for any epochs, slot and zone. No condition. -/
import Derived.Test.YtbfoagfemgogkaaPack20
import Derived.Test.YtbfoagfemgogkaaRows
import Derived.OpenShut
import Derived.ShutString
import Derived.ChangeArms
import Derived.ProofKit
import Derived.SizedLaws
import Derived.WalkKit
import Derived.SliceStrings
import Derived.ChangeOld
import Derived.Carry
import Derived.Below

/- The walks of the law's awake and of EpochRaw, under the program's contracts. -/
namespace Go.Proofs.Ytbfoagfemgogkaa.Ents
open Go.RowKit Plan EntMath CntMath EpoMath Rws
/-- a box of epochs of the walk's own -/
structure EBox (w W : World) (X : Nat) (g : Int) (a b : Option Addr) (n c m d : Nat) (E : Epo) : Prop where
  hX : W.heap[X]? = some (epoRow g a n c b m d)
  ll : PList W (fun b => b ≠ X) g a n c b m d E
  hb : Below w.heap.size w W
  hh : w.heap.size ≤ X
section
variable {w W W' : World} {X : Nat} {g g' : Int} {a b a' b' : Option Addr} {n c m d n' c' m' d' : Nat} {E E' : Epo}
theorem EBox.on (K : EBox w W X g a b n c m d E) (h : Below W.heap.size W W') : EBox w W' X g a b n c m d E := ⟨e_on h K.hX (e_lt K.hX), K.ll.on (Same.below h), K.hb.trans (h.mono K.hb.size), K.hh⟩
theorem EBox.drew (K : EBox w W X g a b n c m d E) : EBox w W.drew X g a b n c m d E := K.on (Below.refl _ _).drew
theorem EBox.al (K : EBox w W X g a b n c m d E) (p : Obj) : EBox w (W.alloc p) X g a b n c m d E := K.on ((Below.refl _ _).alloc (Nat.le_refl _) p)
theorem EBox.put (K : EBox w W X g a b n c m d E) (l : PList W (fun b => b ≠ X) g' a' n' c' b' m' d' E') : EBox w (W.setRow X #[.int .i64 g', .slice a' n' c', .slice b' m' d']) X g' a' b' n' c' m' d' E' :=
  ⟨setRow_heap _ _ _ _ _ _ K.hX, l.on (Same.row (fun h => h rfl) _), below_setRow K.hb K.hh _, K.hh⟩
theorem EBox.res (K : EBox w W X g a b n c m d E) (l : PList W' (Plus (fun b => b ≠ X ∧ b < W.heap.size) W.heap.size) g' a' n' c' b' m' d' E') : PList W' (fun b => b ≠ X) g' a' n' c' b' m' d' E' :=
  l.mono fun b _ h => by
    have h1 := e_lt K.hX
    rcases h with h | h
    · exact h.1
    · omega
theorem EBox.rows (K : EBox w W X g a b n c m d E) : W.cell? ⟨X, 0, none⟩ = some (.int .i64 g) ∧ W.cell? ⟨X, 1, none⟩ = some (.slice a n c) ∧ W.cell? ⟨X, 2, none⟩ = some (.slice b m d) := three_row K.hX
theorem EBox.start (hb : Below w.heap.size w W) (l : PList W (fun b => w.heap.size ≤ b) g a n c b m d E) : EBox w (W.alloc (epoRow g a n c b m d)) W.heap.size g a b n c m d E :=
  ⟨heap_alloc_new _ _, (l.cut.on (Same.alloc _ _)).mono fun b _ h => by have := h.2; omega, hb.alloc hb.size _, hb.size⟩
end
theorem aw_epo : newE 2 = ⟨0, [-1, -1], []⟩ ∧ newEE 2 = 0 ∧ pinE ⟨0, [-1, -1], []⟩ 0 = ⟨0, [0, -1], []⟩ ∧ pinB ⟨0, [-1, -1], []⟩ 0 = true ∧ retireE ⟨0, [0, -1], []⟩ 9 = ⟨0, [0, -1], [⟨9, 0⟩]⟩ ∧ retireB ⟨0, [0, -1], []⟩ 9 = true ∧
    advE ⟨0, [0, -1], [⟨9, 0⟩]⟩ = ⟨1, [0, -1], [⟨9, 0⟩]⟩ ∧ advB ⟨0, [0, -1], [⟨9, 0⟩]⟩ = true ∧ advB ⟨1, [0, -1], [⟨9, 0⟩]⟩ = false ∧ readyB ⟨1, [0, -1], [⟨9, 0⟩]⟩ = false ∧ unpinE ⟨1, [0, -1], [⟨9, 0⟩]⟩ 0 = ⟨1, [-1, -1], [⟨9, 0⟩]⟩ ∧ unpinB ⟨1, [0, -1], [⟨9, 0⟩]⟩ 0 = true ∧
    advE ⟨1, [-1, -1], [⟨9, 0⟩]⟩ = ⟨2, [-1, -1], [⟨9, 0⟩]⟩ ∧ advB ⟨1, [-1, -1], [⟨9, 0⟩]⟩ = true ∧ readyB ⟨2, [-1, -1], [⟨9, 0⟩]⟩ = true ∧ readyZ ⟨2, [-1, -1], [⟨9, 0⟩]⟩ = 9 := by decide
set_option maxHeartbeats 8000000 in
set_option maxRecDepth 20000 in
theorem epoAwake_any (H : EpochOk) (w : World) : Calls Try.prog 8 #[] w fun r w' => r = .returned (.bool true) ∧ Below w.heap.size w w' := by
  obtain ⟨e1, e2, e3, e4, e5, e6, e7, e8, e9, e10, e11, e12, e13, e14, e15, e16⟩ := aw_epo
  have n1 := fun W => H.new 2 W
  have p1 := fun W (F : Nat → Prop) g a n c b m d (h : ∀ b, F b → b < W.heap.size) (l : PList W F g a n c b m d ⟨0, [-1, -1], []⟩) => H.pin F _ 0 g a b n c m d W h l (by have := l.p.length; simp at this; omega) (by have := l.z.length; simp at this; omega)
  have r1 := fun W (F : Nat → Prop) g a n c b m d (h : ∀ b, F b → b < W.heap.size) (l : PList W F g a n c b m d ⟨0, [0, -1], []⟩) => H.retire F _ 9 g a b n c m d W h l (by have := l.p.length; simp at this; omega) (by have := l.z.length; simp at this; omega)
  have a1 := fun W (F : Nat → Prop) g a n c b m d (h : ∀ b, F b → b < W.heap.size) (l : PList W F g a n c b m d ⟨0, [0, -1], [⟨9, 0⟩]⟩) => H.adv F _ g a b n c m d W h l (by have := l.p.length; simp at this; omega) (by have := l.z.length; simp at this; omega)
  have a2 := fun W (F : Nat → Prop) g a n c b m d (h : ∀ b, F b → b < W.heap.size) (l : PList W F g a n c b m d ⟨1, [0, -1], [⟨9, 0⟩]⟩) => H.adv F _ g a b n c m d W h l (by have := l.p.length; simp at this; omega) (by have := l.z.length; simp at this; omega)
  have y1 := fun W (F : Nat → Prop) g a n c b m d (h : ∀ b, F b → b < W.heap.size) (l : PList W F g a n c b m d ⟨1, [0, -1], [⟨9, 0⟩]⟩) => H.ready F _ g a b n c m d W h l (by have := l.p.length; simp at this; omega) (by have := l.z.length; simp at this; omega)
  have u1 := fun W (F : Nat → Prop) g a n c b m d (h : ∀ b, F b → b < W.heap.size) (l : PList W F g a n c b m d ⟨1, [0, -1], [⟨9, 0⟩]⟩) => H.unpin F _ 0 g a b n c m d W h l (by have := l.p.length; simp at this; omega) (by have := l.z.length; simp at this; omega)
  have a3 := fun W (F : Nat → Prop) g a n c b m d (h : ∀ b, F b → b < W.heap.size) (l : PList W F g a n c b m d ⟨1, [-1, -1], [⟨9, 0⟩]⟩) => H.adv F _ g a b n c m d W h l (by have := l.p.length; simp at this; omega) (by have := l.z.length; simp at this; omega)
  have y2 := fun W (F : Nat → Prop) g a n c b m d (h : ∀ b, F b → b < W.heap.size) (l : PList W F g a n c b m d ⟨2, [-1, -1], [⟨9, 0⟩]⟩) => H.ready F _ g a b n c m d W h l (by have := l.p.length; simp at this; omega) (by have := l.z.length; simp at this; omega)
  unfold ENewPost at n1
  unfold EpoPost at p1 r1 a1 a2 u1 a3
  unfold RdyPost at y1 y2
  simp only [e1, e2] at n1
  simp only [e3, e4] at p1
  simp only [e5, e6] at r1
  simp only [e7, e8] at a1
  simp only [e9] at a2
  simp only [e10] at y1
  simp only [e11, e12] at u1
  simp only [e13, e14] at a3
  simp only [e15, e16] at y2
  generalize readyZ ⟨1, [0, -1], [⟨9, 0⟩]⟩ = RZ at y1
  generalize advE ⟨1, [0, -1], [⟨9, 0⟩]⟩ = AE at a2
  clear e1 e2 e3 e4 e5 e6 e7 e8 e9 e10 e11 e12 e13 e14 e15 e16
  have P1 := Lib.hid p1
  have R1 := Lib.hid r1
  have A1 := Lib.hid a1
  have A2 := Lib.hid a2
  have Y1 := Lib.hid y1
  have U1 := Lib.hid u1
  have A3 := Lib.hid a3
  have Y2 := Lib.hid y2
  have N1 := Lib.hid n1
  clear n1 p1 r1 a1 a2 y1 u1 a3 y2
  go_enter Try.func8, Try.ntmps8
  go_wp2_with (first
    | (go_at_call 10; ((with_reducible refine (N1.out _).mono ?_); rintro r9 w5 ⟨xg, xa, xn, xc, xb, xm, xd, rfl, lx, hb⟩; have K := EBox.start hb lx; clear lx hb N1))
    | (go_at_call 19; ((with_reducible refine (P1.out _ _ _ _ _ _ _ _ _ (fun b h => h.2) K.ll.cut).mono ?_); rintro r9 w6 ⟨xg, xa, xn, xc, xb, xm, xd, rfl, lx, h9⟩; have l5 := K.res lx; have K9 := K.on h9; clear K lx h9 P1; have K := K9; clear K9))
    | (go_at_call 20; ((with_reducible refine (R1.out _ _ _ _ _ _ _ _ _ (fun b h => h.2) K.ll.cut).mono ?_); rintro r9 w6 ⟨xg, xa, xn, xc, xb, xm, xd, rfl, lx, h9⟩; have l5 := K.res lx; have K9 := K.on h9; clear K lx h9 R1; have K := K9; clear K9))
    | (go_at_call 21; ((with_reducible refine (A1.out _ _ _ _ _ _ _ _ _ (fun b h => h.2) K.ll.cut).mono ?_); rintro r9 w6 ⟨xg, xa, xn, xc, xb, xm, xd, rfl, lx, h9⟩; have l5 := K.res lx; have K9 := K.on h9; clear K lx h9 A1; have K := K9; clear K9))
    | (go_at_call 21; ((with_reducible refine (A2.out _ _ _ _ _ _ _ _ _ (fun b h => h.2) K.ll.cut).mono ?_); rintro r9 w6 ⟨xg, xa, xn, xc, xb, xm, xd, rfl, lx, h9⟩; have l5 := K.res lx; have K9 := K.on h9; clear K lx h9 A2; have K := K9; clear K9; have K9 := K.al (epoRow xg xa xn xc xb xm xd); clear K l5; have K := K9; clear K9))
    | (go_at_call 22; ((with_reducible refine (Y1.out _ _ _ _ _ _ _ _ _ (fun b h => h.2) K.ll.cut).mono ?_); rintro r9 w6 ⟨rfl, h9⟩; have K9 := K.on h9; clear K h9 Y1; have K := K9; clear K9))
    | (go_at_call 18; ((with_reducible refine (U1.out _ _ _ _ _ _ _ _ _ (fun b h => h.2) K.ll.cut).mono ?_); rintro r9 w6 ⟨xg, xa, xn, xc, xb, xm, xd, rfl, lx, h9⟩; have l5 := K.res lx; have K9 := K.on h9; clear K lx h9 U1; have K := K9; clear K9))
    | (go_at_call 21; ((with_reducible refine (A3.out _ _ _ _ _ _ _ _ _ (fun b h => h.2) K.ll.cut).mono ?_); rintro r9 w6 ⟨xg, xa, xn, xc, xb, xm, xd, rfl, lx, h9⟩; have l5 := K.res lx; have K9 := K.on h9; clear K lx h9 A3; have K := K9; clear K9))
    | (go_at_call 22; ((with_reducible refine (Y2.out _ _ _ _ _ _ _ _ _ (fun b h => h.2) K.ll.cut).mono ?_); rintro r9 w6 ⟨rfl, h9⟩; have K9 := K.on h9; clear K h9 Y2; have K := K9; clear K9))
    | ((with_reducible refine Plan.store_lit 25 (.tmp 1) _ w5.heap.size ?_ K.hX ?_ ?_ ?_ ?_ ?_ ?_); rotate_left; (· rfl); (· rfl); (· exact epo_info); (· rfl); (· simp [Value.oneCell']); simp only [Act.put]; have K9 := K.put l5; generalize w6.setRow w5.heap.size #[.int .i64 xg, .slice xa xn xc, .slice xb xm xd] = w6 at *; clear K l5; have K := K9; clear K9)
    | ((with_reducible refine Plan.load_lit 25 (.tmp 1) (w5.heap.size) ?_ K.hX Try.underlying25 ?_ ?_ ?_); (· rfl); (· rfl); (· exact epo_info); simp only [Act.put, List.setIfInBounds_toArray, List.set_cons_zero, List.set_cons_succ]))
  go_ret
  exact ⟨rfl, K.hb⟩
set_option maxHeartbeats 8000000 in
set_option maxRecDepth 20000 in
theorem epoRaw_any (H : EpochOk) (F : Nat → Prop) (E : Epo) (s z g : Int) (a b : Option Addr) (n c m d : Nat) (w : World) (hl : PList w F g a n c b m d E) (hs : n + m ≤ 4611686018427387904) :
    Calls Try.prog 3 #[epoV g a n c b m d, .int .i64 s, .int .i64 z] w fun r w' => r = .returned (.bool true) ∧ Below w.heap.size w w' := by
  have hb := (Below.refl w.heap.size w).alloc (Nat.le_refl _) (epoRow g a n c b m d)
  have hx := heap_alloc_new w (epoRow g a n c b m d)
  have HW := Lib.hid (fun W => epoAwake_any H W)
  have hw : wrap64 ((n : Int) + (m : Int)) = (n : Int) + (m : Int) := by unfold wrap64; omega
  have hw2 : IntKind.i64.wrap ((n : Int) + (m : Int)) = (n : Int) + (m : Int) := IntWalk.i64_in _ (by omega)
  by_cases hm : n + m ≤ 100
  · have HG := Lib.hid (fun W (h : Below w.heap.size w W) => epoAgree_any H _ E s z g a b n c m d W (hl.same h) (by omega) (by omega))
    have d1 : decide ((100 : Int) < (n : Int) + (m : Int)) = false := by simp; omega
    have d3 : ¬ (100 : Int) < (n : Int) + (m : Int) := by omega
    clear hl
    go_enter Try.func3, Try.ntmps3
    obtain ⟨c0, c1, c2⟩ := three_row hx
    generalize hw0 : w.alloc (epoRow g a n c b m d) = w0 at *
    go_wp2_with (first
      | ((with_reducible refine load_lit_gc 25 (.tmp 3) (w.heap.size) ?_ ?_ hx Try.underlying25 ?_ ?_ ?_); (· rfl); (· rfl); (· rfl); (· exact epo_info); simp only [Act.put, List.setIfInBounds_toArray, List.set_cons_zero, List.set_cons_succ])
      | (go_at_call 7; ((with_reducible refine (HG.out _ hb).mono ?_); rintro r9 w5 ⟨rfl, h9⟩; have hb := hb.trans (h9.mono hb.size)))
      | (go_at_call 8; ((with_reducible refine (HW.out _).mono ?_); rintro r9 w6 ⟨rfl, h9⟩; have hb := hb.trans (h9.mono hb.size))))
    go_ret
    exact ⟨rfl, hb⟩
  · have d1 : decide ((100 : Int) < (n : Int) + (m : Int)) = true := by simp; omega
    have d3 : (100 : Int) < (n : Int) + (m : Int) := by omega
    clear hl
    go_enter Try.func3, Try.ntmps3
    obtain ⟨c0, c1, c2⟩ := three_row hx
    generalize hw0 : w.alloc (epoRow g a n c b m d) = w0 at *
    go_wp2_with (first
      | (go_at_call 8; ((with_reducible refine (HW.out _).mono ?_); rintro r9 w6 ⟨rfl, h9⟩; have hb := hb.trans (h9.mono hb.size))))
    go_ret
    exact ⟨rfl, hb⟩
end Go.Proofs.Ytbfoagfemgogkaa.Ents

/- Entries, places and lists of entries that come in. -/
namespace Go.Proofs.Ytbfoagfemgogkaa.Ents
open Go.ChangeShapes Go.WideShapes Go.RowKit EntMath
set_option maxRecDepth 20000 in
theorem ent_cells_int : Try.prog.cellsOf 3 = 1 := by kernel_rfl
set_option maxRecDepth 20000 in
theorem ent_some {α : Type} {l : List α} {i n : Nat} (hl : l.length = n) (hi : i < n) : ∃ y, l[i]? = some y := ⟨l[i]'(by omega), List.getElem?_eq_getElem (by omega)⟩
section
variable {H : Type} {enc : TypeId × Value → H} {w : World} {base : Nat} {spare : Nat → Bool} {held : Bool}
set_option maxRecDepth 20000 in
/-- the block of a slice that came in -/
theorem ent_slice_in {w : World} {r : Reach} {b0 : Nat} {u : TypeId} {a : Addr} {len cap : Nat} (h : Cell.okWide Try.prog w r b0 u (.slice (some a) len cap)) : a.block < w.heap.size := by
  have hs : (∃ row cells, w.shape? a.block = some (row, cells)) → a.block < w.heap.size := by
    rintro ⟨row, cells, h⟩
    unfold World.shape? at h
    rcases Nat.lt_or_ge a.block w.heap.size with hl | hl
    · exact hl
    · rw [Array.getElem?_eq_none hl] at h
      cases h
  unfold Cell.okWide at h
  split at h
  all_goals first
    | (rename_i hv; cases hv; done)
    | (rename_i hu hv; cases hv; done)
    | skip
  unfold Cell.ok at h
  split at h
  all_goals first
    | (rename_i hv; cases hv; done)
    | (rename_i hu hv; cases hv; done)
    | exact h.elim
    | skip
  rename_i hv
  cases hv
  obtain ⟨_, _, _, _, row, cells, hsh, _⟩ := h
  exact hs ⟨row, cells, hsh⟩
end
end Go.Proofs.Ytbfoagfemgogkaa.Ents

/- Lists of elements of any type that come in; how long they may be. -/
namespace Go.Proofs.Ytbfoagfemgogkaa.Rws
open Go.ChangeShapes Go.WideShapes Go.RowKit Ents
section
variable {H : Type} {enc : TypeId × Value → H} {w : World} {base : Nat} {spare : Nat → Bool} {held : Bool} {α : Type} {R : Row α}
theorem rows_block {a : Addr} {i k n : Nat} {cs : List Value} (hk : 0 < k) (h : w.cells? n (a.add i) k = some cs) : a.block < w.heap.size := by
  obtain ⟨_, h1, h2⟩ := World.cells?_some h
  have h4 : cs[0]? = some (cs[0]'(by omega)) := List.getElem?_eq_getElem _
  have := World.block_lt_of_cell? w _ ((h2 0 hk).trans h4)
  rwa [ent_add_block, ent_add_block] at this
set_option maxRecDepth 20000 in
theorem trod_rows (hR : R.Ok) (hc : Try.prog.cellsOf R.et = R.sz) (hE : ∀ {fuel : Nat} {cs : List Value} {x : DataW H × List MemPlace}, DataW.trod enc Try.prog w base spare held fuel R.et cs = some x → ∃ e, cs = R.c e)
    (hs : ∀ b, spare b = true) {fuel : Nat} {cs : List Value} {x : DataW H × List MemPlace} (h : DataW.trod enc Try.prog w base spare held fuel R.st cs = some x) : ∃ a len cap L, cs = [.slice a len cap] ∧ TList R w (fun b => b < w.heap.size) a len cap L := by
  rcases DataW.trod_slice hR.und h with ⟨rfl, _⟩ | ⟨a, len, cap, elems, rest, n, _, rfl, _, _, hl, hm, hlen, hel, hsp, _⟩
  · exact ⟨none, 0, 0, [], rfl, .inl ⟨trivial, rfl, rfl, rfl⟩⟩
  rw [hc] at hel hsp
  by_cases hcap : cap = 0
  · subst hcap
    obtain rfl : len = 0 := by omega
    exact ⟨some a, 0, 0, [], rfl, .inl ⟨trivial, rfl, rfl, rfl⟩⟩
  have hblk : a.block < w.heap.size := by
    by_cases h0 : 0 < len
    · obtain ⟨y, hy⟩ := ent_some hlen h0
      have h1 := (hel 0 h0).trans hy
      rw [Option.bind_eq_some_iff] at h1
      obtain ⟨cs, hcs, _⟩ := h1
      exact rows_block hR.pos hcs
    · obtain ⟨hr, hre⟩ := hsp (hs _)
      obtain ⟨y, hy⟩ := ent_some hr (i := 0) (by omega)
      have h1 := (hre 0 (by omega)).trans hy
      rw [Option.bind_eq_some_iff] at h1
      obtain ⟨cs, hcs, _⟩ := h1
      exact rows_block hR.pos hcs
  have each : ∀ i, i < len → ∃ e : α, ∀ j u, (R.c e)[j]? = some u → w.cell? (a.add (i * R.sz + j)) = some u := by
    intro i hi
    obtain ⟨y, hy⟩ := ent_some hlen hi
    have h1 := (hel i hi).trans hy
    rw [Option.bind_eq_some_iff] at h1
    obtain ⟨cs, hcs, ht⟩ := h1
    obtain ⟨e, rfl⟩ := hE ht
    refine ⟨e, fun j u hu => ?_⟩
    obtain ⟨h1, h2⟩ := World.cells?_some hcs
    have hj : j < R.sz := by have := (List.getElem?_eq_some_iff.1 hu).1; rwa [hR.len] at this
    have := (h2.2 j hj).trans hu
    rwa [Addr.add_add] at this
  have build : ∀ n, n ≤ len → ∃ L : List α, L.length = n ∧ ∀ j u, (R.all L)[j]? = some u → w.cell? (a.add j) = some u := by
    intro n
    induction n with
    | zero => intro _; exact ⟨[], rfl, fun j u hu => by simp [Row.all] at hu⟩
    | succ n ih =>
      intro hn
      obtain ⟨L, hL, hall⟩ := ih (by omega)
      obtain ⟨e, he⟩ := each n (by omega)
      refine ⟨L ++ [e], by simp [hL], fun j u hu => ?_⟩
      rw [all_append, all_one] at hu
      rcases Nat.lt_or_ge j (n * R.sz) with hj | hj
      · rw [List.getElem?_append_left (by rw [all_length hR, hL]; exact hj)] at hu
        exact hall j u hu
      · rw [List.getElem?_append_right (by rw [all_length hR, hL]; exact hj), all_length hR, hL] at hu
        have := he (j - n * R.sz) u hu
        rwa [show n * R.sz + (j - n * R.sz) = j by omega] at this
  obtain ⟨L, hL, hall⟩ := build len (Nat.le_refl _)
  exact ⟨some a, len, cap, L, rfl, .inr ⟨a, rfl, hl, hm, hL, hblk, hblk, hall⟩⟩
set_option maxRecDepth 20000 in
theorem rows_len (hR : R.Ok) (hb : Try.prog.bytesOf R.et = R.wide) (hw : 0 < R.wide) {fuel : Nat} {b : Option Addr} {m k : Nat} {x : DataW H × List MemPlace} (h : DataW.trod enc Try.prog w base spare held fuel R.st [.slice b m k] = some x) (hr : ∀ y ∈ x.1.weights Try.prog R.st, y ≤ reachBytes) : m ≤ reachBytes := by
  rcases DataW.trod_slice hR.und h with ⟨hc, _⟩ | ⟨a', len', cap', elems, rest, n', _, hc, hy, _, _, _, hel, _, _, _⟩
  · simp at hc
    rw [hc.2.1]
    exact Nat.zero_le _
  · simp at hc
    obtain ⟨-, rfl, rfl⟩ := hc
    have h1 := hr ((elems.length + rest.length) * R.wide) (by rw [hy]; simp [DataW.weights, hR.und, hb])
    have h2 : elems.length + rest.length ≤ (elems.length + rest.length) * R.wide := Nat.le_mul_of_pos_right _ hw
    omega
end
end Go.Proofs.Ytbfoagfemgogkaa.Rws

/- Counters that come in. -/
namespace Go.Proofs.Ytbfoagfemgogkaa.Ents
open Go.ChangeShapes Go.WideShapes Go.RowKit EntMath CntMath
set_option maxRecDepth 20000 in
theorem cnt_cells_ints : Try.prog.cellsOf 22 = 1 := by kernel_rfl
theorem row_list {w : World} {a : Option Addr} {l c : Nat} {zs : List Int} (h : IsRow .i64 w a l c zs) : IList w (fun b => b < w.heap.size) a l c (zs.take l) := by
  rcases h with ⟨rfl, rfl, rfl, rfl⟩ | ⟨x, rfl, h1, h2, h3, h4, _⟩
  · exact .inl ⟨trivial, rfl, rfl, rfl⟩
  · by_cases hc : c = 0
    · subst hc
      obtain rfl : l = 0 := by omega
      exact .inl ⟨trivial, rfl, rfl, rfl⟩
    · have hb : x.block < w.heap.size := by
        have := World.block_lt_of_cell? w _ (h4 0 (by omega))
        rwa [ent_add_block] at this
      refine .inr ⟨x, rfl, h1, h2, by rw [List.length_take]; omega, hb, hb, fun j z hz => ?_⟩
      rw [List.getElem?_take] at hz
      split at hz
      · have hlt := (List.getElem?_eq_some_iff.1 hz).1
        rw [h4 j hlt, List.getD_eq_getElem?_getD, hz]
        rfl
      · cases hz
section
variable {H : Type} {enc : TypeId × Value → H} {w : World} {base : Nat} {spare : Nat → Bool}
set_option maxRecDepth 20000 in
theorem trod_ilist (hs : ∀ b, spare b = true) {fuel : Nat} {v : Value} {x : DataW H × List MemPlace} (h : DataW.trod enc Try.prog w base spare true fuel 22 [v] = some x) : ∃ a n c Z, v = .slice a n c ∧ IList w (fun b => b < w.heap.size) a n c Z := by
  rcases open_ints Try.underlying22 Try.underlying3 (by kernel_rfl) h with ⟨hcs, _⟩ | ⟨x, l, c, zs, hcs, _, hl, hm, hz, _, hcell, hwz⟩
  · simp at hcs
    exact ⟨_, _, _, [], hcs, .inl ⟨trivial, rfl, rfl, rfl⟩⟩
  · simp at hcs
    exact ⟨_, _, _, _, hcs, row_list (.inr ⟨_, rfl, hl, hm, by simpa [hs] using hz, hcell, hwz⟩)⟩
end
end Go.Proofs.Ytbfoagfemgogkaa.Ents

/- How long counters that come in may be, by the bytes that their lists take. -/
namespace Go.Proofs.Ytbfoagfemgogkaa.Ents
open Go.ChangeShapes Go.WideShapes Go.RowKit EntMath CntMath
theorem bytes_int : Try.prog.bytesOf 3 = 8 := by kernel_rfl
section
variable {H : Type} {enc : TypeId × Value → H} {w : World} {base : Nat} {spare : Nat → Bool} {held : Bool}
set_option maxRecDepth 20000 in
theorem ints_len {fuel : Nat} {b : Option Addr} {m k : Nat} {x : DataW H × List MemPlace} (h : DataW.trod enc Try.prog w base spare held fuel 22 [.slice b m k] = some x) (hr : ∀ y ∈ x.1.weights Try.prog 22, y ≤ reachBytes) : m ≤ reachBytes := by
  rcases DataW.trod_slice Try.underlying22 h with ⟨hc, _⟩ | ⟨a', len', cap', elems, rest, n', _, hc, hy, _, _, _, hel, _, _, _⟩
  · simp at hc
    rw [hc.2.1]
    exact Nat.zero_le _
  · simp at hc
    obtain ⟨-, rfl, rfl⟩ := hc
    have := hr ((elems.length + rest.length) * 8) (by rw [hy]; simp [DataW.weights, Try.underlying22, bytes_int])
    omega
theorem cnt_reach {n n2 m : Nat} (h : n ≤ reachBytes ∧ n2 ≤ reachBytes) (hm : m ≤ reachBytes) : n + n2 + m ≤ 4611686018427387904 := by
  have h4 : reachBytes = 140737488351232 := rfl
  omega
end
end Go.Proofs.Ytbfoagfemgogkaa.Ents

/- Epochs that come in. -/
namespace Go.Proofs.Ytbfoagfemgogkaa.Ents
open Go.ChangeShapes Go.WideShapes Go.RowKit EntMath EpoMath Rws
set_option maxRecDepth 20000 in
theorem epo_cells : Try.prog.cellsOf 25 = 3 := by kernel_rfl
set_option maxRecDepth 20000 in
theorem ret_cells : Try.prog.cellsOf 48 = 2 := by kernel_rfl
set_option maxRecDepth 20000 in
theorem rets_cells : Try.prog.cellsOf 23 = 1 := by kernel_rfl
theorem ret_bytes : Try.prog.bytesOf 48 = 16 := by kernel_rfl
section
variable {H : Type} {enc : TypeId × Value → H} {w : World} {base : Nat} {spare : Nat → Bool}
set_option maxRecDepth 20000 in
theorem trod_ret {held : Bool} {fuel : Nat} {cs : List Value} {x : DataW H × List MemPlace} (h : DataW.trod enc Try.prog w base spare held fuel 48 cs = some x) : ∃ r : Ret, cs = RR.c r := by
  obtain ⟨xs, n, _, _, hl4, hlen, hg⟩ := DataW.trod_struct Try.underlying48 h
  rw [ret_cells] at hl4
  match cs, hl4 with
  | [x0, x1], _ =>
    have hl : xs.length = 2 := hlen
    obtain ⟨y0, e0⟩ := ent_some hl (i := 0) (by decide)
    obtain ⟨y1, e1⟩ := ent_some hl (i := 1) (by decide)
    have g0 : DataW.trod enc Try.prog w base spare held n 3 (([x0, x1].drop 0).take (Try.prog.cellsOf 3)) = some y0 := (hg 0 _ rfl).trans e0
    rw [ent_cells_int] at g0
    have g1 : DataW.trod enc Try.prog w base spare held n 3 (([x0, x1].drop 1).take (Try.prog.cellsOf 3)) = some y1 := (hg 1 _ rfl).trans e1
    rw [ent_cells_int] at g1
    obtain ⟨z, h0, _⟩ := DataW.trod_int Try.underlying3 g0
    obtain ⟨o, h1, _⟩ := DataW.trod_int Try.underlying3 g1
    simp at h0 h1
    exact ⟨⟨z, o⟩, by rw [h0, h1]; rfl⟩
set_option maxRecDepth 20000 in
theorem open_epo {r : Reach} {b0 : Nat} {v : Value} {d : DataW H} {p : List MemPlace} (hs : ∀ b, spare b = true)
    (hok : Value.okWide Try.prog w r b0 25 v) (h : DataW.Trod enc Try.prog w base spare true 25 v d p) :
    ∃ (g : Int) (a : Option Addr) (n c : Nat) (b : Option Addr) (m d : Nat) (E : Epo), v = epoV g a n c b m d ∧ PList w (fun b => b < w.heap.size) g a n c b m d E := by
  obtain ⟨cs, rfl, hsz⟩ := okWide_struct Try.underlying25 hok
  obtain ⟨l⟩ := cs
  match l, hsz.trans epo_cells with
  | [x0, x1, x2], _ =>
    obtain ⟨fuel, hf⟩ := h
    obtain ⟨xs, n, _, _, _, hlen, hg⟩ := DataW.trod_struct Try.underlying25 hf
    have hl : xs.length = 3 := hlen
    obtain ⟨y0, e0⟩ := ent_some hl (i := 0) (by decide)
    obtain ⟨y1, e1⟩ := ent_some hl (i := 1) (by decide)
    obtain ⟨y2, e2⟩ := ent_some hl (i := 2) (by decide)
    have g0 : DataW.trod enc Try.prog w base spare true n 3 (([x0, x1, x2].drop 0).take (Try.prog.cellsOf 3)) = some y0 := (hg 0 _ rfl).trans e0
    have g1 : DataW.trod enc Try.prog w base spare true n 22 (([x0, x1, x2].drop 1).take (Try.prog.cellsOf 22)) = some y1 := (hg 1 _ rfl).trans e1
    have g2 : DataW.trod enc Try.prog w base spare true n 23 (([x0, x1, x2].drop 2).take (Try.prog.cellsOf 23)) = some y2 := (hg 2 _ rfl).trans e2
    rw [ent_cells_int] at g0
    rw [cnt_cells_ints] at g1
    rw [rets_cells] at g2
    obtain ⟨z, h0, _⟩ := DataW.trod_int Try.underlying3 g0
    obtain ⟨a, n, c, Z, rfl, h1⟩ := trod_ilist hs g1
    obtain ⟨b, m, d, L, hb, h2⟩ := trod_rows rrOk ret_cells trod_ret hs g2
    simp at h0 hb
    subst h0
    subst hb
    exact ⟨z, a, n, c, b, m, d, ⟨z, Z, L⟩, rfl, ⟨rfl, h1, h2⟩⟩
set_option maxRecDepth 20000 in
theorem epo_len {held : Bool} {g : Int} {a b : Option Addr} {n c m d : Nat} {dd : DataW H} {p : List MemPlace} (h : DataW.Trod enc Try.prog w base spare held 25 (epoV g a n c b m d) dd p)
    (hr : ∀ y ∈ dd.weights Try.prog 25, y ≤ reachBytes) : n + m ≤ 4611686018427387904 := by
  obtain ⟨fuel, hf⟩ := h
  obtain ⟨xs, f, _, hx, _, hl0, hg⟩ := DataW.trod_struct Try.underlying25 hf
  have hd : dd = .agg (xs.map (·.1)) := congrArg Prod.fst hx
  have hl : xs.length = 3 := hl0
  obtain ⟨y1, e1⟩ := ent_some hl (i := 1) (by decide)
  obtain ⟨y2, e2⟩ := ent_some hl (i := 2) (by decide)
  have g1 : DataW.trod enc Try.prog w base spare held f 22 (([Value.int .i64 g, Value.slice a n c, Value.slice b m d].drop 1).take (Try.prog.cellsOf 22)) = some y1 := (hg 1 _ rfl).trans e1
  have g2 : DataW.trod enc Try.prog w base spare held f 23 (([Value.int .i64 g, Value.slice a n c, Value.slice b m d].drop 2).take (Try.prog.cellsOf 23)) = some y2 := (hg 2 _ rfl).trans e2
  rw [cnt_cells_ints] at g1
  rw [rets_cells] at g2
  have l1 : n ≤ reachBytes := ints_len g1 fun y hy => by
    refine hr y ?_
    rw [hd]
    have hm := DataW.weights_mem_each (P := Try.prog) (ts := [3, 22, 23]) (ds := xs.map (·.1)) (j := 1) (t := 22) (d := y1.1) rfl (by rw [List.getElem?_map, e1]; rfl) y hy
    simp only [DataW.weights, Try.underlying25]
    exact hm
  have l2 : m ≤ reachBytes := rows_len rrOk ret_bytes (by decide) g2 fun y hy => by
    refine hr y ?_
    rw [hd]
    have hm := DataW.weights_mem_each (P := Try.prog) (ts := [3, 22, 23]) (ds := xs.map (·.1)) (j := 2) (t := 23) (d := y2.1) rfl (by rw [List.getElem?_map, e2]; rfl) y hy
    simp only [DataW.weights, Try.underlying25]
    exact hm
  have h4 : reachBytes = 140737488351232 := rfl
  omega
end
end Go.Proofs.Ytbfoagfemgogkaa.Ents

/- EpochRaw: the program's Pin, Unpin, Retire, Advance, Forget, Ready and Valid answer as the document's own, for any epochs, slot and zone. No condition. -/
namespace Go.Proofs.Ytbfoagfemgogkaa.epochRaw
open Go.ChangeShapes Go.WideShapes Go.ChangeAt Go.RowKit
open Go.ChangeMaps (open_string shut_string)
set_option linter.unusedVariables false

theorem own : ownKnob Try.prog.godebug = none := by kernel_rfl
theorem laidOut : laidOutB Try.prog = true := by kernel_rfl

theorem walk (pg0 : Int) (pa0 : Option Addr) (pn0 pc0 : Nat) (pb0 : Option Addr) (pm0 pd0 : Nat) (pe0 : EpoMath.Epo) (a1 : Int) (w1 : (Lit.int .i64 a1).wf = true) (a2 : Int) (w2 : (Lit.int .i64 a2).wf = true) (w : World) (hm : pn0 + pm0 ≤ 4611686018427387904) (w0 : Ents.PList w (fun b => b < w.heap.size) pg0 pa0 pn0 pc0 pb0 pm0 pd0 pe0) :
    Calls Try.prog 3 #[Ents.epoV pg0 pa0 pn0 pc0 pb0 pm0 pd0, .int .i64 a1, .int .i64 a2] w fun e w' => e = .returned (.bool true) ∧ Below w.heap.size w w' := by
  exact Ents.epoRaw_any Ents.epochOk _ pe0 a1 a2 pg0 pa0 pb0 pn0 pc0 pm0 pd0 w w0 hm

set_option maxRecDepth 100000 in
theorem lifted (os : Os) (started : os.Started) (H : Type) (enc : TypeId × Value → H) :
    ReturnsInHanded {} Try.checked os 3 .any (Rows.epochRawSpec.pre6 enc Try.prog Try.f3 Rows.epochRawRow.domain false) (Rows.epochRawSpec.post enc Try.prog Try.f3 false true false false) := by
  refine returnsInHanded_of_change_sized (C := Try.checked) own started (by kernel_rfl) Try.func3
    (ChangeSpec.witness6 (enc := enc) (C := Try.checked) false ⟨#[], #[.agg #[.int .i64 0, .slice none 0 0, .slice none 0 0], .int .i64 0, .int .i64 0], []⟩ 8 (by kernel_rfl) (by kernel_rfl) (by kernel_rfl) (by kernel_rfl)) ?_
  intro W base args ds gs before hval0 hW hcnd hsz0 _
  have hsz : (DataW.weightsEach Try.prog (Try.f3.params.toList ++ Rows.epochRawSpec.plain.varTypes Try.prog) (ds ++ gs)).all (· ≤ reachBytes) = true := hsz0
  have hval : ∀ (j : Nat) t v, Try.f3.params[j]? = some t → args[j]? = some v → Value.okWide Try.prog W .any base t v := hval0
  have hW' := hW
  obtain ⟨p, q, hA0, hV, rfl, hfz, hnd⟩ := hW
  have hA : DataW.TrodAll enc Try.prog W 0 (fun _ => true) true Try.f3.params.toList args.toList ds p := hA0
  rw [Try.params3] at hA hval hsz
  obtain ⟨v0, vs0, d0, ds0, p0, q0, hargs, rfl, rfl, h0, r0⟩ := trodAll_cons hA
  obtain ⟨v1, vs1, d1, ds1, p1, q1, rfl, rfl, rfl, h1, r1⟩ := trodAll_cons r0
  obtain ⟨v2, vs2, d2, ds2, p2, q2, rfl, rfl, rfl, h2, r2⟩ := trodAll_cons r1
  obtain ⟨rfl, rfl, rfl⟩ := trodAll_nil r2
  obtain rfl : args = #[v0, v1, v2] := by cases args; simp_all
  obtain ⟨rfl, rfl⟩ := trodVars_none hV
  have k0' := h0
  have lt0 : ∀ x ∈ p0, x.block < W.heap.size := by obtain ⟨m, hm⟩ := h0; exact DataW.trod_lt m _ _ _ hm
  have k1' := h1
  have lt1 : ∀ x ∈ p1, x.block < W.heap.size := by obtain ⟨m, hm⟩ := h1; exact DataW.trod_lt m _ _ _ hm
  have k2' := h2
  have lt2 : ∀ x ∈ p2, x.block < W.heap.size := by obtain ⟨m, hm⟩ := h2; exact DataW.trod_lt m _ _ _ hm
  obtain ⟨pg0, pa0, pn0, pc0, pb0, pm0, pd0, pe0, rfl, w0⟩ := Ents.open_epo (fun _ => rfl) (hval 0 25 v0 rfl rfl) h0
  obtain ⟨a1, rfl, _, _, w1⟩ := open_int Try.underlying3 (hval 1 3 v1 rfl rfl) h1
  obtain ⟨a2, rfl, _, _, w2⟩ := open_int Try.underlying3 (hval 2 3 v2 rfl rfl) h2
  have hm := Ents.epo_len h0 (fun y hy => of_decide_eq_true (List.all_eq_true.1 hsz y (DataW.weights_mem_each (j := 0) (t := 25) rfl rfl y hy)))
  clear hA0 hval0 hsz hsz0
  refine (walk pg0 pa0 pn0 pc0 pb0 pm0 pd0 pe0 a1 w1 a2 w2 W hm w0).mono fun e W' ⟨he, bel⟩ => ?_
  subst he
  exact ⟨_, rfl, _, _, _, [], _, [], hW', trodAll_mk1 (shut_bool Try.underlying4 _), (trodAll_cons_mk (Below.trod laidOut (by kernel_rfl) (of_decide_eq_true (by kernel_rfl)) k0' bel lt0) (trodAll_cons_mk (Below.trod laidOut (by kernel_rfl) (of_decide_eq_true (by kernel_rfl)) k1' bel lt1) (trodAll_cons_mk (Below.trod laidOut (by kernel_rfl) (of_decide_eq_true (by kernel_rfl)) k2' bel lt2) trodAll_mk0))), rfl, bel.frame _, fun h => by cases h⟩

theorem over : Rows.epochRawRow.holds Try.pinned (OpenSpec.ofChange Rows.epochRawSpec) :=
  OpenClaim.holds_of_wide 3 Try.f3 rfl rfl rfl rfl rfl rfl rfl ⟨rfl, rfl, rfl, rfl, rfl⟩ rfl rfl rfl rfl rfl (by kernel_rfl) Try.func3 (by kernel_rfl)
    (of_decide_eq_true (by kernel_rfl)) (by unfold Func.isWrapper; first | (rw [if_pos (by decide +kernel)]; kernel_rfl) | (rw [if_neg (by decide +kernel)]; exact ⟨rfl, rfl⟩))
    (fun os started H enc _ => lifted os started H enc)
end Go.Proofs.Ytbfoagfemgogkaa.epochRaw

namespace Go.Proofs.Ytbfoagfemgogkaa
theorem epochRaw_holds : Rows.EpochRawSaid := epochRaw.over
end Go.Proofs.Ytbfoagfemgogkaa
