/- PoolRaw: the program's Put, Valid, Host, Cleaner and Leave answer as the document's own, for any pool, configuration, zone and lane. No condition. -/
import Derived.Test.YtjdlekjikemdpaaPack23
import Derived.Test.YtjdlekjikemdpaaProg
import Derived.Test.YtjdlekjikemdpaaRows
import Derived.OpenShut
import Derived.ShutString
import Derived.ChangeArms
import Derived.ProofKit
import Derived.WalkKit
import Derived.KernelRfl
import Derived.SliceStrings
import Derived.ChangeOld
import Derived.Carry
import Derived.Below

/- Entries, places and lists of entries that come in. -/
namespace Go.Proofs.Ytjdlekjikemdpaa.Ents
open Go.ChangeShapes Go.WideShapes Go.RowKit EntMath
set_option maxRecDepth 20000 in
theorem ent_cells_int : Try.prog.cellsOf 3 = 1 := by kernel_rfl
set_option maxRecDepth 20000 in
theorem ent_some {α : Type} {l : List α} {i n : Nat} (hl : l.length = n) (hi : i < n) : ∃ y, l[i]? = some y := ⟨l[i]'(by omega), List.getElem?_eq_getElem (by omega)⟩
section
variable {H : Type} {enc : TypeId × Value → H} {w : World} {base : Nat} {spare : Nat → Bool} {held : Bool}
set_option maxRecDepth 20000 in
/-- the block of a slice that came in -/
theorem ent_slice_in {w : World} {r : Reach} {b0 : Nat} {u : TypeId} {a : Addr} {len cap : Nat} (h : Cell.okWide Try.prog w r b0 u (.slice (some a) len cap)) : a.block < w.heap.size := by
  have hs : (∃ row cells, w.shape? a.block = some (row, cells)) → a.block < w.heap.size := by
    rintro ⟨row, cells, h⟩
    unfold World.shape? at h
    rcases Nat.lt_or_ge a.block w.heap.size with hl | hl
    · exact hl
    · rw [Array.getElem?_eq_none hl] at h
      cases h
  unfold Cell.okWide at h
  split at h
  all_goals first
    | (rename_i hv; cases hv; done)
    | (rename_i hu hv; cases hv; done)
    | skip
  unfold Cell.ok at h
  split at h
  all_goals first
    | (rename_i hv; cases hv; done)
    | (rename_i hu hv; cases hv; done)
    | exact h.elim
    | skip
  rename_i hv
  cases hv
  obtain ⟨_, _, _, _, row, cells, hsh, _⟩ := h
  exact hs ⟨row, cells, hsh⟩
end
end Go.Proofs.Ytjdlekjikemdpaa.Ents

/- Counters that come in. -/
namespace Go.Proofs.Ytjdlekjikemdpaa.Ents
open Go.ChangeShapes Go.WideShapes Go.RowKit EntMath CntMath
set_option maxRecDepth 20000 in
theorem cnt_cells_ints : Try.prog.cellsOf 22 = 1 := by kernel_rfl
theorem row_list {w : World} {a : Option Addr} {l c : Nat} {zs : List Int} (h : IsRow .i64 w a l c zs) : IList w (fun b => b < w.heap.size) a l c (zs.take l) := by
  rcases h with ⟨rfl, rfl, rfl, rfl⟩ | ⟨x, rfl, h1, h2, h3, h4, _⟩
  · exact .inl ⟨trivial, rfl, rfl, rfl⟩
  · by_cases hc : c = 0
    · subst hc
      obtain rfl : l = 0 := by omega
      exact .inl ⟨trivial, rfl, rfl, rfl⟩
    · have hb : x.block < w.heap.size := by
        have := World.block_lt_of_cell? w _ (h4 0 (by omega))
        rwa [ent_add_block] at this
      refine .inr ⟨x, rfl, h1, h2, by rw [List.length_take]; omega, hb, hb, fun j z hz => ?_⟩
      rw [List.getElem?_take] at hz
      split at hz
      · have hlt := (List.getElem?_eq_some_iff.1 hz).1
        rw [h4 j hlt, List.getD_eq_getElem?_getD, hz]
        rfl
      · cases hz
section
variable {H : Type} {enc : TypeId × Value → H} {w : World} {base : Nat} {spare : Nat → Bool}
set_option maxRecDepth 20000 in
theorem trod_ilist (hs : ∀ b, spare b = true) {fuel : Nat} {v : Value} {x : DataW H × List MemPlace} (h : DataW.trod enc Try.prog w base spare true fuel 22 [v] = some x) : ∃ a n c Z, v = .slice a n c ∧ IList w (fun b => b < w.heap.size) a n c Z := by
  rcases open_ints Try.underlying22 Try.underlying3 (by kernel_rfl) h with ⟨hcs, _⟩ | ⟨x, l, c, zs, hcs, _, hl, hm, hz, _, hcell, hwz⟩
  · simp at hcs
    exact ⟨_, _, _, [], hcs, .inl ⟨trivial, rfl, rfl, rfl⟩⟩
  · simp at hcs
    exact ⟨_, _, _, _, hcs, row_list (.inr ⟨_, rfl, hl, hm, by simpa [hs] using hz, hcell, hwz⟩)⟩
end
end Go.Proofs.Ytjdlekjikemdpaa.Ents

/- Pools that come in. -/
namespace Go.Proofs.Ytjdlekjikemdpaa.Ents
open Go.ChangeShapes Go.WideShapes Go.RowKit EntMath PoolMath
set_option maxRecDepth 20000 in
theorem pool_cells : Try.prog.cellsOf 24 = 3 := by kernel_rfl
section
variable {H : Type} {enc : TypeId × Value → H} {w : World} {base : Nat} {spare : Nat → Bool}
set_option maxRecDepth 20000 in
theorem open_pool {r : Reach} {b0 : Nat} {v : Value} {d : DataW H} {p : List MemPlace} (hs : ∀ b, spare b = true)
    (hok : Value.okWide Try.prog w r b0 24 v) (h : DataW.Trod enc Try.prog w base spare true 24 v d p) :
    ∃ (a : Option Addr) (n c : Nat) (x k : Int) (P : Po), v = poV a n c x k ∧ FList w (fun b => b < w.heap.size) a n c x k P := by
  obtain ⟨cs, rfl, hsz⟩ := okWide_struct Try.underlying24 hok
  obtain ⟨l⟩ := cs
  match l, hsz.trans pool_cells with
  | [x0, x1, x2], _ =>
    obtain ⟨fuel, hf⟩ := h
    obtain ⟨xs, n, _, _, _, hlen, hg⟩ := DataW.trod_struct Try.underlying24 hf
    have hl : xs.length = 3 := hlen
    obtain ⟨y0, e0⟩ := ent_some hl (i := 0) (by decide)
    obtain ⟨y1, e1⟩ := ent_some hl (i := 1) (by decide)
    obtain ⟨y2, e2⟩ := ent_some hl (i := 2) (by decide)
    have g0 : DataW.trod enc Try.prog w base spare true n 22 (([x0, x1, x2].drop 0).take (Try.prog.cellsOf 22)) = some y0 := (hg 0 _ rfl).trans e0
    have g1 : DataW.trod enc Try.prog w base spare true n 3 (([x0, x1, x2].drop 1).take (Try.prog.cellsOf 3)) = some y1 := (hg 1 _ rfl).trans e1
    have g2 : DataW.trod enc Try.prog w base spare true n 3 (([x0, x1, x2].drop 2).take (Try.prog.cellsOf 3)) = some y2 := (hg 2 _ rfl).trans e2
    rw [cnt_cells_ints] at g0
    rw [ent_cells_int] at g1 g2
    obtain ⟨a, m, c, Z, h0, h1⟩ := trod_ilist hs g0
    obtain ⟨x, hx, _⟩ := DataW.trod_int Try.underlying3 g1
    obtain ⟨k, hk, _⟩ := DataW.trod_int Try.underlying3 g2
    simp at h0 hx hk
    subst h0 hx hk
    exact ⟨a, m, c, x, k, ⟨Z, x, k⟩, rfl, ⟨rfl, rfl, h1⟩⟩
end
end Go.Proofs.Ytjdlekjikemdpaa.Ents

/- A configuration that comes in: its six fields; six numbers in an array. -/
namespace Go.Proofs.Ytjdlekjikemdpaa
open Go.ChangeShapes Go.WideShapes Go.RowKit

theorem lay_cells_int : Try.prog.cellsOf 3 = 1 := by kernel_rfl
theorem lay_cells_conf : Try.prog.cellsOf 26 = 6 := by kernel_rfl
theorem lay_some {α : Type} {l : List α} {i n : Nat} (hl : l.length = n) (hi : i < n) : ∃ y, l[i]? = some y := ⟨l[i]'(by omega), List.getElem?_eq_getElem (by omega)⟩
theorem lay_wide_array {P : Program} {w : World} {r : Reach} {b0 n : Nat} {t e : TypeId} {v : Value} (ht : P.underlying t = some (.array n e)) (h : Value.okWide P w r b0 t v) : ∃ cs, v = .agg cs ∧ cs.size = P.cellsOf t := by
  simp only [Value.okWide, ht] at h
  obtain ⟨cs, h1, h2, _⟩ := h
  exact ⟨cs, h1, h2⟩
theorem open_conf {H : Type} {enc : TypeId × Value → H} {w : World} {base : Nat} {spare : Nat → Bool} {held : Bool} {r : Reach} {b0 : Nat} {v : Value} {d : DataW H} {p : List MemPlace}
    (hok : Value.okWide Try.prog w r b0 26 v) (h : DataW.Trod enc Try.prog w base spare held 26 v d p) :
    ∃ n0 n1 n2 n3 n4 n5 : Int, v = .agg #[.int .i64 n0, .int .i64 n1, .int .i64 n2, .int .i64 n3, .int .i64 n4, .int .i64 n5] := by
  obtain ⟨cs, rfl, hsz⟩ := okWide_struct Try.underlying26 hok
  obtain ⟨l⟩ := cs
  match l, hsz.trans lay_cells_conf with
  | [x0, x1, x2, x3, x4, x5], _ =>
    obtain ⟨fuel, hf⟩ := h
    obtain ⟨xs, n, _, _, _, hlen, hg⟩ := DataW.trod_struct Try.underlying26 hf
    have hl : xs.length = 6 := hlen
    obtain ⟨y0, e0⟩ := lay_some hl (i := 0) (by decide)
    obtain ⟨y1, e1⟩ := lay_some hl (i := 1) (by decide)
    obtain ⟨y2, e2⟩ := lay_some hl (i := 2) (by decide)
    obtain ⟨y3, e3⟩ := lay_some hl (i := 3) (by decide)
    obtain ⟨y4, e4⟩ := lay_some hl (i := 4) (by decide)
    obtain ⟨y5, e5⟩ := lay_some hl (i := 5) (by decide)
    have g0 : DataW.trod enc Try.prog w base spare held n 3 (([x0, x1, x2, x3, x4, x5].drop 0).take (Try.prog.cellsOf 3)) = some y0 := (hg 0 _ rfl).trans e0
    rw [lay_cells_int] at g0
    have g1 : DataW.trod enc Try.prog w base spare held n 3 (([x0, x1, x2, x3, x4, x5].drop 1).take (Try.prog.cellsOf 3)) = some y1 := (hg 1 _ rfl).trans e1
    rw [lay_cells_int] at g1
    have g2 : DataW.trod enc Try.prog w base spare held n 3 (([x0, x1, x2, x3, x4, x5].drop 2).take (Try.prog.cellsOf 3)) = some y2 := (hg 2 _ rfl).trans e2
    rw [lay_cells_int] at g2
    have g3 : DataW.trod enc Try.prog w base spare held n 3 (([x0, x1, x2, x3, x4, x5].drop 3).take (Try.prog.cellsOf 3)) = some y3 := (hg 3 _ rfl).trans e3
    rw [lay_cells_int] at g3
    have g4 : DataW.trod enc Try.prog w base spare held n 3 (([x0, x1, x2, x3, x4, x5].drop 4).take (Try.prog.cellsOf 3)) = some y4 := (hg 4 _ rfl).trans e4
    rw [lay_cells_int] at g4
    have g5 : DataW.trod enc Try.prog w base spare held n 3 (([x0, x1, x2, x3, x4, x5].drop 5).take (Try.prog.cellsOf 3)) = some y5 := (hg 5 _ rfl).trans e5
    rw [lay_cells_int] at g5
    obtain ⟨k0, h0, _⟩ := DataW.trod_int Try.underlying3 g0
    obtain ⟨k1, h1, _⟩ := DataW.trod_int Try.underlying3 g1
    obtain ⟨k2, h2, _⟩ := DataW.trod_int Try.underlying3 g2
    obtain ⟨k3, h3, _⟩ := DataW.trod_int Try.underlying3 g3
    obtain ⟨k4, h4, _⟩ := DataW.trod_int Try.underlying3 g4
    obtain ⟨k5, h5, _⟩ := DataW.trod_int Try.underlying3 g5
    simp at h0 h1 h2 h3 h4 h5
    exact ⟨k0, k1, k2, k3, k4, k5, by rw [h0, h1, h2, h3, h4, h5]⟩
end Go.Proofs.Ytjdlekjikemdpaa

/- PoolRaw: the program's Put, Valid, Host, Cleaner and Leave answer as the document's own, for any pool, configuration, zone and lane. No condition. -/
namespace Go.Proofs.Ytjdlekjikemdpaa.poolRaw
open Go.ChangeShapes Go.WideShapes Go.ChangeAt Go.RowKit
open Go.ChangeMaps (open_string shut_string)
set_option linter.unusedVariables false

theorem own : ownKnob Try.prog.godebug = none := by kernel_rfl
theorem laidOut : laidOutB Try.prog = true := by kernel_rfl

theorem walk (qa0 : Option Addr) (qn0 qc0 : Nat) (qh0 qk0 : Int) (qp0 : PoolMath.Po) (n10 n11 n12 n13 n14 n15 : Int) (a2 : Int) (w2 : (Lit.int .i64 a2).wf = true) (a3 : Bool) (w : World) (w0 : Ents.FList w (fun b => b < w.heap.size) qa0 qn0 qc0 qh0 qk0 qp0) :
    Calls Try.prog 3 #[Ents.poV qa0 qn0 qc0 qh0 qk0, .agg #[.int .i64 n10, .int .i64 n11, .int .i64 n12, .int .i64 n13, .int .i64 n14, .int .i64 n15], .int .i64 a2, .bool a3] w fun e w' => e = .returned (.bool true) ∧ Below w.heap.size w w' := by
  exact Ents.poolRaw_any Ents.poolOk _ qp0 n10 n11 n12 n13 n14 n15 a2 a3 qa0 qn0 qc0 qh0 qk0 w w0

set_option maxRecDepth 100000 in
theorem lifted (os : Os) (started : os.Started) (H : Type) (enc : TypeId × Value → H) :
    ReturnsInHanded {} Try.checked os 3 .any (Rows.poolRawSpec.pre6 enc Try.prog Try.f3 Rows.poolRawRow.domain false) (Rows.poolRawSpec.post enc Try.prog Try.f3 false true false false) := by
  refine returnsInHanded_of_change (C := Try.checked) own started (by kernel_rfl) Try.func3
    (ChangeSpec.witness6 (enc := enc) (C := Try.checked) false ⟨#[], #[.agg #[.slice none 0 0, .int .i64 0, .int .i64 0], .agg #[.int .i64 0, .int .i64 0, .int .i64 0, .int .i64 0, .int .i64 0, .int .i64 0], .int .i64 0, .bool false], []⟩ 8 (by kernel_rfl) (by kernel_rfl) (by kernel_rfl) (by kernel_rfl)) ?_
  intro W base args ds gs before hval0 hW hcnd _
  have hval : ∀ (j : Nat) t v, Try.f3.params[j]? = some t → args[j]? = some v → Value.okWide Try.prog W .any base t v := hval0
  have hW' := hW
  obtain ⟨p, q, hA0, hV, rfl, hfz, hnd⟩ := hW
  have hA : DataW.TrodAll enc Try.prog W 0 (fun _ => true) true Try.f3.params.toList args.toList ds p := hA0
  rw [Try.params3] at hA hval
  obtain ⟨v0, vs0, d0, ds0, p0, q0, hargs, rfl, rfl, h0, r0⟩ := trodAll_cons hA
  obtain ⟨v1, vs1, d1, ds1, p1, q1, rfl, rfl, rfl, h1, r1⟩ := trodAll_cons r0
  obtain ⟨v2, vs2, d2, ds2, p2, q2, rfl, rfl, rfl, h2, r2⟩ := trodAll_cons r1
  obtain ⟨v3, vs3, d3, ds3, p3, q3, rfl, rfl, rfl, h3, r3⟩ := trodAll_cons r2
  obtain ⟨rfl, rfl, rfl⟩ := trodAll_nil r3
  obtain rfl : args = #[v0, v1, v2, v3] := by cases args; simp_all
  obtain ⟨rfl, rfl⟩ := trodVars_none hV
  have k0' := h0
  have lt0 : ∀ x ∈ p0, x.block < W.heap.size := by obtain ⟨m, hm⟩ := h0; exact DataW.trod_lt m _ _ _ hm
  have k1' := h1
  have lt1 : ∀ x ∈ p1, x.block < W.heap.size := by obtain ⟨m, hm⟩ := h1; exact DataW.trod_lt m _ _ _ hm
  have k2' := h2
  have lt2 : ∀ x ∈ p2, x.block < W.heap.size := by obtain ⟨m, hm⟩ := h2; exact DataW.trod_lt m _ _ _ hm
  have k3' := h3
  have lt3 : ∀ x ∈ p3, x.block < W.heap.size := by obtain ⟨m, hm⟩ := h3; exact DataW.trod_lt m _ _ _ hm
  obtain ⟨qa0, qn0, qc0, qh0, qk0, qp0, rfl, w0⟩ := Ents.open_pool (fun _ => rfl) (hval 0 24 v0 rfl rfl) h0
  obtain ⟨n10, n11, n12, n13, n14, n15, rfl⟩ := open_conf (hval 1 26 v1 rfl rfl) h1
  obtain ⟨a2, rfl, _, _, w2⟩ := open_int Try.underlying3 (hval 2 3 v2 rfl rfl) h2
  obtain ⟨a3, rfl, _, _⟩ := open_bool Try.underlying4 (hval 3 4 v3 rfl rfl) h3
  clear hA0 hval0
  refine (walk qa0 qn0 qc0 qh0 qk0 qp0 n10 n11 n12 n13 n14 n15 a2 w2 a3 W w0).mono fun e W' ⟨he, bel⟩ => ?_
  subst he
  exact ⟨_, rfl, _, _, _, [], _, [], hW', trodAll_mk1 (shut_bool Try.underlying4 _), (trodAll_cons_mk (Below.trod laidOut (by kernel_rfl) (of_decide_eq_true (by kernel_rfl)) k0' bel lt0) (trodAll_cons_mk (Below.trod laidOut (by kernel_rfl) (of_decide_eq_true (by kernel_rfl)) k1' bel lt1) (trodAll_cons_mk (Below.trod laidOut (by kernel_rfl) (of_decide_eq_true (by kernel_rfl)) k2' bel lt2) (trodAll_cons_mk (Below.trod laidOut (by kernel_rfl) (of_decide_eq_true (by kernel_rfl)) k3' bel lt3) trodAll_mk0)))), rfl, bel.frame _, fun h => by cases h⟩

theorem over : Rows.poolRawRow.holds Try.pinned (OpenSpec.ofChange Rows.poolRawSpec) :=
  OpenClaim.holds_of_wide 3 Try.f3 rfl rfl rfl rfl rfl rfl rfl ⟨rfl, rfl, rfl, rfl, rfl⟩ rfl rfl rfl rfl rfl (by kernel_rfl) Try.func3 (by kernel_rfl)
    (of_decide_eq_true (by kernel_rfl)) (by unfold Func.isWrapper; first | (rw [if_pos (by decide +kernel)]; kernel_rfl) | (rw [if_neg (by decide +kernel)]; exact ⟨rfl, rfl⟩))
    (fun os started H enc _ => lifted os started H enc)
end Go.Proofs.Ytjdlekjikemdpaa.poolRaw

namespace Go.Proofs.Ytjdlekjikemdpaa
theorem poolRaw_holds : Rows.PoolRawSaid := poolRaw.over
end Go.Proofs.Ytjdlekjikemdpaa
