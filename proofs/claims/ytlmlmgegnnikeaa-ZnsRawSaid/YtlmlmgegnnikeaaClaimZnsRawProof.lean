/- ZnsRaw: the program's functions on zones answer as the document's own, for any device, zone, offset and sector. No condition. -/
import Derived.Test.YtlmlmgegnnikeaaPack12
import Derived.Test.YtlmlmgegnnikeaaProg
import Derived.Test.YtlmlmgegnnikeaaRows
import Derived.WalkKit
import Derived.ProofKit
import Derived.OpenShut
import Derived.ShutString
import Derived.KernelRfl
import Derived.SliceStrings
import Derived.ChangeArms
import Derived.ChangeOld
import Derived.Carry
import Derived.Below

/- A record that comes in: its five fields. -/
namespace Go.Proofs.Ytlmlmgegnnikeaa
open Go.ChangeShapes Go.WideShapes Go.RowKit

theorem cells_int : Try.prog.cellsOf 3 = 1 := by kernel_rfl
theorem cells_str : Try.prog.cellsOf 9 = 1 := by kernel_rfl
theorem cells_rec : Try.prog.cellsOf 38 = 5 := by kernel_rfl
theorem some_of {α : Type} {l : List α} {i n : Nat} (hl : l.length = n) (hi : i < n) : ∃ y, l[i]? = some y := ⟨l[i]'(by omega), List.getElem?_eq_getElem (by omega)⟩
theorem open_rec {H : Type} {enc : TypeId × Value → H} {w : World} {base : Nat} {spare : Nat → Bool} {held : Bool} {r : Reach} {b0 : Nat} {v : Value} {d : DataW H} {p : List MemPlace}
    (hok : Value.okWide Try.prog w r b0 38 v) (h : DataW.Trod enc Try.prog w base spare held 38 v d p) :
    ∃ (k b vn m : Int) (s : ByteArray), v = .agg #[.int .i64 k, .int .i64 b, .int .i64 vn, .int .i64 m, .string s] := by
  obtain ⟨cs, rfl, hsz⟩ := okWide_struct Try.underlying38 hok
  obtain ⟨l⟩ := cs
  match l, hsz.trans cells_rec with
  | [x0, x1, x2, x3, x4], _ =>
    obtain ⟨fuel, hf⟩ := h
    obtain ⟨xs, n, _, _, _, hlen, hg⟩ := DataW.trod_struct Try.underlying38 hf
    have hl : xs.length = 5 := hlen
    obtain ⟨y0, e0⟩ := some_of hl (i := 0) (by decide)
    obtain ⟨y1, e1⟩ := some_of hl (i := 1) (by decide)
    obtain ⟨y2, e2⟩ := some_of hl (i := 2) (by decide)
    obtain ⟨y3, e3⟩ := some_of hl (i := 3) (by decide)
    obtain ⟨y4, e4⟩ := some_of hl (i := 4) (by decide)
    have g0 : DataW.trod enc Try.prog w base spare held n 3 (([x0, x1, x2, x3, x4].drop 0).take (Try.prog.cellsOf 3)) = some y0 := (hg 0 _ rfl).trans e0
    rw [cells_int] at g0
    have g1 : DataW.trod enc Try.prog w base spare held n 3 (([x0, x1, x2, x3, x4].drop 1).take (Try.prog.cellsOf 3)) = some y1 := (hg 1 _ rfl).trans e1
    rw [cells_int] at g1
    have g2 : DataW.trod enc Try.prog w base spare held n 3 (([x0, x1, x2, x3, x4].drop 2).take (Try.prog.cellsOf 3)) = some y2 := (hg 2 _ rfl).trans e2
    rw [cells_int] at g2
    have g3 : DataW.trod enc Try.prog w base spare held n 3 (([x0, x1, x2, x3, x4].drop 3).take (Try.prog.cellsOf 3)) = some y3 := (hg 3 _ rfl).trans e3
    rw [cells_int] at g3
    have g4 : DataW.trod enc Try.prog w base spare held n 9 (([x0, x1, x2, x3, x4].drop 4).take (Try.prog.cellsOf 9)) = some y4 := (hg 4 _ rfl).trans e4
    rw [cells_str] at g4
    obtain ⟨k, h0, _⟩ := DataW.trod_int Try.underlying3 g0
    obtain ⟨b, h1, _⟩ := DataW.trod_int Try.underlying3 g1
    obtain ⟨vn, h2, _⟩ := DataW.trod_int Try.underlying3 g2
    obtain ⟨m, h3, _⟩ := DataW.trod_int Try.underlying3 g3
    obtain ⟨s, h4, _⟩ := DataW.trod_string Try.underlying9 g4
    simp at h0 h1 h2 h3 h4
    exact ⟨k, b, vn, m, s, by rw [h0, h1, h2, h3, h4]⟩
end Go.Proofs.Ytlmlmgegnnikeaa

/- A device that comes in: its numbers and its zones. -/
namespace Go.Proofs.Ytlmlmgegnnikeaa
open Go.ChangeShapes Go.WideShapes Go.RowKit ZnsMath

theorem cells_zone : Try.prog.cellsOf 48 = 3 := by kernel_rfl
theorem cells_dev : Try.prog.cellsOf 24 = 4 := by kernel_rfl
theorem cells_strs : Try.prog.cellsOf 46 = 1 := by kernel_rfl
theorem cells_zones : Try.prog.cellsOf 22 = 1 := by kernel_rfl
section
variable {H : Type} {enc : TypeId × Value → H} {w : World} {base : Nat} {spare : Nat → Bool} {held : Bool}
/-- a list of strings among data -/
theorem open_strs {fuel : Nat} {cs : List Value} {x : DataW H × List MemPlace} (h : DataW.trod enc Try.prog w base spare held fuel 46 cs = some x) : ∃ sa sl sc L, cs = [.slice sa sl sc] ∧ IsStrs w sa sl sc L := by
  rcases open_strings Try.underlying46 Try.underlying9 (by kernel_rfl) h with ⟨hcs, _⟩ | ⟨x, l, c, ss, hcs, _, hl, hm, hs, _, hcell, hsz⟩
  · exact ⟨none, 0, 0, [], hcs, .inl ⟨rfl, rfl, rfl, rfl⟩⟩
  · have hll : l ≤ ss.length := by rw [hs]; split <;> omega
    refine ⟨_, _, _, ss.take l, hcs, .inr ⟨_, rfl, hl, hm, by rw [List.length_take]; omega, fun i s hi => ?_⟩⟩
    rw [List.getElem?_take] at hi
    split at hi
    · have hlt := (List.getElem?_eq_some_iff.1 hi).1
      refine ⟨?_, hsz s (List.mem_of_getElem? hi)⟩
      rw [hcell i hlt, List.getD_eq_getElem?_getD, hi]; rfl
    · cases hi
/-- a zone among data -/
theorem open_zone {fuel : Nat} {cs : List Value} {x : DataW H × List MemPlace} (h : DataW.trod enc Try.prog w base spare held fuel 48 cs = some x) : ∃ (z : Zone) (sa : Option Addr) (sl sc : Nat), cs = [.int .i64 z.state, .int .i64 z.durable, .slice sa sl sc] ∧ IsStrs w sa sl sc z.sectors := by
  obtain ⟨xs, n, _, _, hl4, hlen, hg⟩ := DataW.trod_struct Try.underlying48 h
  rw [cells_zone] at hl4
  match cs, hl4 with
  | [x0, x1, x2], _ =>
    have hl : xs.length = 3 := hlen
    obtain ⟨y0, e0⟩ := some_of hl (i := 0) (by decide)
    obtain ⟨y1, e1⟩ := some_of hl (i := 1) (by decide)
    obtain ⟨y2, e2⟩ := some_of hl (i := 2) (by decide)
    have g0 : DataW.trod enc Try.prog w base spare held n 3 (([x0, x1, x2].drop 0).take (Try.prog.cellsOf 3)) = some y0 := (hg 0 _ rfl).trans e0
    rw [cells_int] at g0
    have g1 : DataW.trod enc Try.prog w base spare held n 3 (([x0, x1, x2].drop 1).take (Try.prog.cellsOf 3)) = some y1 := (hg 1 _ rfl).trans e1
    rw [cells_int] at g1
    have g2 : DataW.trod enc Try.prog w base spare held n 46 (([x0, x1, x2].drop 2).take (Try.prog.cellsOf 46)) = some y2 := (hg 2 _ rfl).trans e2
    rw [cells_strs] at g2
    obtain ⟨st, h0, _⟩ := DataW.trod_int Try.underlying3 g0
    obtain ⟨du, h1, _⟩ := DataW.trod_int Try.underlying3 g1
    obtain ⟨sa, sl, sc, L, h2, hs⟩ := open_strs g2
    simp at h0 h1 h2
    exact ⟨⟨st, du, L⟩, sa, sl, sc, by rw [h0, h1, h2], hs⟩
/-- zones among data -/
theorem open_zones {fuel : Nat} {cs : List Value} {x : DataW H × List MemPlace} (h : DataW.trod enc Try.prog w base spare held fuel 22 cs = some x) (hb : ∀ a len cap, cs = [.slice (some a) len cap] → a.block < w.heap.size) : ∃ a len cap Z, cs = [.slice a len cap] ∧ IsZones w a len cap Z := by
  rcases DataW.trod_slice Try.underlying22 h with ⟨rfl, _⟩ | ⟨a, len, cap, elems, rest, n, _, rfl, _, _, hl, hm, hlen, hel, _, _⟩
  · exact ⟨none, 0, 0, [], rfl, .inl ⟨rfl, rfl, rfl, rfl⟩⟩
  have each : ∀ i, i < len → ∃ z : Zone, w.cell? (a.add (i * 3)) = some (.int .i64 z.state) ∧ w.cell? (a.add (i * 3 + 1)) = some (.int .i64 z.durable) ∧ ∃ sa sl sc, w.cell? (a.add (i * 3 + 2)) = some (.slice sa sl sc) ∧ IsStrs w sa sl sc z.sectors := by
    intro i hi
    obtain ⟨y, hy⟩ : ∃ y, elems[i]? = some y := ⟨elems[i]'(by omega), List.getElem?_eq_getElem (by omega)⟩
    have h1 := (hel i hi).trans hy
    rw [cells_zone, Option.bind_eq_some_iff] at h1
    obtain ⟨cs, hcs, ht⟩ := h1
    obtain ⟨z, sa, sl, sc, rfl, hs⟩ := open_zone ht
    have hc : ∀ j u, ([Value.int .i64 z.state, .int .i64 z.durable, .slice sa sl sc] : List Value)[j]? = some u → w.cell? ((a.add (i * 3)).add j) = some u := fun j u hu => by
      obtain ⟨h1, h2⟩ := World.cells?_some hcs
      have hj : j < 3 := by have := (List.getElem?_eq_some_iff.1 hu).1; simpa using this
      exact (h2.2 j hj).trans hu
    refine ⟨z, ?_, ?_, sa, sl, sc, ?_, hs⟩
    · have := hc 0 _ rfl; rwa [Addr.add_add] at this
    · have := hc 1 _ rfl; rwa [Addr.add_add] at this
    · have := hc 2 _ rfl; rwa [Addr.add_add] at this
  have build : ∀ n, n ≤ len → ∃ Z : List Zone, Z.length = n ∧ ∀ (i : Nat) z, Z[i]? = some z → w.cell? (a.add (i * 3)) = some (.int .i64 z.state) ∧ w.cell? (a.add (i * 3 + 1)) = some (.int .i64 z.durable) ∧ ∃ sa sl sc, w.cell? (a.add (i * 3 + 2)) = some (.slice sa sl sc) ∧ IsStrs w sa sl sc z.sectors := by
    intro n
    induction n with
    | zero => intro _; exact ⟨[], rfl, fun i z hz => by cases hz⟩
    | succ n ih =>
      intro hn
      obtain ⟨Z, hZ, hall⟩ := ih (by omega)
      obtain ⟨z, hz⟩ := each n (by omega)
      refine ⟨Z ++ [z], by simp [hZ], fun i y hy => ?_⟩
      by_cases hi : i < Z.length
      · rw [List.getElem?_append_left hi] at hy
        exact hall i y hy
      · have hi2 := (List.getElem?_eq_some_iff.1 hy).1
        simp at hi2
        obtain rfl : i = Z.length := by omega
        obtain rfl : z = y := by simpa using hy
        rw [hZ]
        exact hz
  obtain ⟨Z, hZ, hall⟩ := build len (Nat.le_refl _)
  exact ⟨some a, len, cap, Z, rfl, .inr ⟨a, rfl, hl, hm, hZ, hb a len cap rfl, hall⟩⟩
/-- the block of a slice that came in -/
theorem slice_in {w : World} {r : Reach} {b0 : Nat} {u : TypeId} {a : Addr} {len cap : Nat} (h : Cell.okWide Try.prog w r b0 u (.slice (some a) len cap)) : a.block < w.heap.size := by
  have hs : (∃ row cells, w.shape? a.block = some (row, cells)) → a.block < w.heap.size := by
    rintro ⟨row, cells, h⟩
    unfold World.shape? at h
    rcases Nat.lt_or_ge a.block w.heap.size with hl | hl
    · exact hl
    · rw [Array.getElem?_eq_none hl] at h
      cases h
  unfold Cell.okWide at h
  split at h
  all_goals first
    | (rename_i hv; cases hv; done)
    | (rename_i hu hv; cases hv; done)
    | skip
  unfold Cell.ok at h
  split at h
  all_goals first
    | (rename_i hv; cases hv; done)
    | (rename_i hu hv; cases hv; done)
    | exact h.elim
    | skip
  rename_i hv
  cases hv
  obtain ⟨_, _, _, _, row, cells, hsh, _⟩ := h
  exact hs ⟨row, cells, hsh⟩
theorem open_dev {r : Reach} {b0 : Nat} {v : Value} {d : DataW H} {p : List MemPlace}
    (hok : Value.okWide Try.prog w r b0 24 v) (h : DataW.Trod enc Try.prog w base spare held 24 v d p) :
    ∃ (D : Dev) (a : Option Addr) (len cap : Nat), v = .agg #[.int .i64 D.size, .int .i64 D.maxOpen, .int .i64 D.maxActive, .slice a len cap] ∧ IsZones w a len cap D.zones := by
  have hok2 := hok
  obtain ⟨cs, rfl, hsz⟩ := okWide_struct Try.underlying24 hok
  obtain ⟨l⟩ := cs
  match l, hsz.trans cells_dev with
  | [x0, x1, x2, x3], _ =>
    have hblk : ∀ a len cap, x3 = .slice (some a) len cap → a.block < w.heap.size := by
      rintro a len cap rfl
      simp only [Value.okWide, Try.underlying24] at hok2
      obtain ⟨cs, e, _, ts, _, _, hall⟩ := hok2
      cases e
      obtain ⟨u, _, hc⟩ := hall 3 _ rfl
      exact slice_in hc
    obtain ⟨fuel, hf⟩ := h
    obtain ⟨xs, n, _, _, _, hlen, hg⟩ := DataW.trod_struct Try.underlying24 hf
    have hl : xs.length = 4 := hlen
    obtain ⟨y0, e0⟩ := some_of hl (i := 0) (by decide)
    obtain ⟨y1, e1⟩ := some_of hl (i := 1) (by decide)
    obtain ⟨y2, e2⟩ := some_of hl (i := 2) (by decide)
    obtain ⟨y3, e3⟩ := some_of hl (i := 3) (by decide)
    have g0 : DataW.trod enc Try.prog w base spare held n 3 (([x0, x1, x2, x3].drop 0).take (Try.prog.cellsOf 3)) = some y0 := (hg 0 _ rfl).trans e0
    rw [cells_int] at g0
    have g1 : DataW.trod enc Try.prog w base spare held n 3 (([x0, x1, x2, x3].drop 1).take (Try.prog.cellsOf 3)) = some y1 := (hg 1 _ rfl).trans e1
    rw [cells_int] at g1
    have g2 : DataW.trod enc Try.prog w base spare held n 3 (([x0, x1, x2, x3].drop 2).take (Try.prog.cellsOf 3)) = some y2 := (hg 2 _ rfl).trans e2
    rw [cells_int] at g2
    have g3 : DataW.trod enc Try.prog w base spare held n 22 (([x0, x1, x2, x3].drop 3).take (Try.prog.cellsOf 22)) = some y3 := (hg 3 _ rfl).trans e3
    rw [cells_zones] at g3
    obtain ⟨k, h0, _⟩ := DataW.trod_int Try.underlying3 g0
    obtain ⟨b, h1, _⟩ := DataW.trod_int Try.underlying3 g1
    obtain ⟨m, h2, _⟩ := DataW.trod_int Try.underlying3 g2
    obtain ⟨a, len, cap, Z, h3, hz⟩ := open_zones g3 (fun a len cap e => hblk a len cap (by simpa using e))
    simp at h0 h1 h2 h3
    exact ⟨⟨k, b, m, Z⟩, a, len, cap, by rw [h0, h1, h2, h3], hz⟩
end
end Go.Proofs.Ytlmlmgegnnikeaa

/- ZnsRaw: the program's functions on zones answer as the document's own, for any device, zone, offset and sector. No condition. -/
namespace Go.Proofs.Ytlmlmgegnnikeaa.znsRaw
open Go.ChangeShapes Go.WideShapes Go.ChangeAt Go.RowKit
open Go.ChangeMaps (open_string shut_string)
set_option linter.unusedVariables false

theorem own : ownKnob Try.prog.godebug = none := by kernel_rfl
theorem laidOut : laidOutB Try.prog = true := by kernel_rfl

theorem walk (d0 : ZnsMath.Dev) (a0 : Option Addr) (l0 c0 : Nat) (a1 : Int) (w1 : (Lit.int .i64 a1).wf = true) (a2 : Int) (w2 : (Lit.int .i64 a2).wf = true) (s3 : ByteArray) (w3 : s3.size ≤ maxLen) (w : World) (w0 : IsZones w a0 l0 c0 d0.zones) :
    Calls Try.prog 3 #[.agg #[.int .i64 d0.size, .int .i64 d0.maxOpen, .int .i64 d0.maxActive, .slice a0 l0 c0], .int .i64 a1, .int .i64 a2, .string s3] w fun e w' => e = .returned (.bool true) ∧ Below w.heap.size w w' := by
  exact znsRaw_all d0 a0 l0 c0 a1 a2 s3 w w0

set_option maxRecDepth 100000 in
theorem lifted (os : Os) (started : os.Started) (H : Type) (enc : TypeId × Value → H) :
    ReturnsInHanded {} Try.checked os 3 .any (Rows.znsRawSpec.pre6 enc Try.prog Try.f3 Rows.znsRawRow.domain false) (Rows.znsRawSpec.post enc Try.prog Try.f3 false true false false) := by
  refine returnsInHanded_of_change (C := Try.checked) own started (by kernel_rfl) Try.func3
    (ChangeSpec.witness6 (enc := enc) (C := Try.checked) false ⟨#[], #[.agg #[.int .i64 0, .int .i64 0, .int .i64 0, .slice none 0 0], .int .i64 0, .int .i64 0, .string ByteArray.empty], []⟩ 8 (by kernel_rfl) (by kernel_rfl) (by kernel_rfl) (by kernel_rfl)) ?_
  intro W base args ds gs before hval0 hW hcnd _
  have hval : ∀ (j : Nat) t v, Try.f3.params[j]? = some t → args[j]? = some v → Value.okWide Try.prog W .any base t v := hval0
  have hW' := hW
  obtain ⟨p, q, hA0, hV, rfl, hfz, hnd⟩ := hW
  have hA : DataW.TrodAll enc Try.prog W 0 (fun _ => true) true Try.f3.params.toList args.toList ds p := hA0
  rw [Try.params3] at hA hval
  obtain ⟨v0, vs0, d0, ds0, p0, q0, hargs, rfl, rfl, h0, r0⟩ := trodAll_cons hA
  obtain ⟨v1, vs1, d1, ds1, p1, q1, rfl, rfl, rfl, h1, r1⟩ := trodAll_cons r0
  obtain ⟨v2, vs2, d2, ds2, p2, q2, rfl, rfl, rfl, h2, r2⟩ := trodAll_cons r1
  obtain ⟨v3, vs3, d3, ds3, p3, q3, rfl, rfl, rfl, h3, r3⟩ := trodAll_cons r2
  obtain ⟨rfl, rfl, rfl⟩ := trodAll_nil r3
  obtain rfl : args = #[v0, v1, v2, v3] := by cases args; simp_all
  obtain ⟨rfl, rfl⟩ := trodVars_none hV
  have k0' := h0
  have lt0 : ∀ x ∈ p0, x.block < W.heap.size := by obtain ⟨m, hm⟩ := h0; exact DataW.trod_lt m _ _ _ hm
  have k1' := h1
  have lt1 : ∀ x ∈ p1, x.block < W.heap.size := by obtain ⟨m, hm⟩ := h1; exact DataW.trod_lt m _ _ _ hm
  have k2' := h2
  have lt2 : ∀ x ∈ p2, x.block < W.heap.size := by obtain ⟨m, hm⟩ := h2; exact DataW.trod_lt m _ _ _ hm
  have k3' := h3
  have lt3 : ∀ x ∈ p3, x.block < W.heap.size := by obtain ⟨m, hm⟩ := h3; exact DataW.trod_lt m _ _ _ hm
  obtain ⟨d0, a0, l0, c0, rfl, w0⟩ := open_dev (hval 0 24 v0 rfl rfl) h0
  obtain ⟨a1, rfl, _, _, w1⟩ := open_int Try.underlying3 (hval 1 3 v1 rfl rfl) h1
  obtain ⟨a2, rfl, _, _, w2⟩ := open_int Try.underlying3 (hval 2 3 v2 rfl rfl) h2
  obtain ⟨s3, rfl, _, _, w3⟩ := open_string Try.underlying9 (hval 3 9 v3 rfl rfl) h3
  clear hA0 hval0
  refine (walk d0 a0 l0 c0 a1 w1 a2 w2 s3 w3 W w0).mono fun e W' ⟨he, bel⟩ => ?_
  subst he
  exact ⟨_, rfl, _, _, _, [], _, [], hW', trodAll_mk1 (shut_bool Try.underlying4 _), (trodAll_cons_mk (Below.trod laidOut (by kernel_rfl) (of_decide_eq_true (by kernel_rfl)) k0' bel lt0) (trodAll_cons_mk (Below.trod laidOut (by kernel_rfl) (of_decide_eq_true (by kernel_rfl)) k1' bel lt1) (trodAll_cons_mk (Below.trod laidOut (by kernel_rfl) (of_decide_eq_true (by kernel_rfl)) k2' bel lt2) (trodAll_cons_mk (Below.trod laidOut (by kernel_rfl) (of_decide_eq_true (by kernel_rfl)) k3' bel lt3) trodAll_mk0)))), rfl, bel.frame _, fun h => by cases h⟩

theorem over : Rows.znsRawRow.holds Try.pinned (OpenSpec.ofChange Rows.znsRawSpec) :=
  OpenClaim.holds_of_wide 3 Try.f3 rfl rfl rfl rfl rfl rfl rfl ⟨rfl, rfl, rfl, rfl, rfl⟩ rfl rfl rfl rfl rfl (by kernel_rfl) Try.func3 (by kernel_rfl)
    (of_decide_eq_true (by kernel_rfl)) (by unfold Func.isWrapper; first | (rw [if_pos (by decide +kernel)]; kernel_rfl) | (rw [if_neg (by decide +kernel)]; exact ⟨rfl, rfl⟩))
    (fun os started H enc _ => lifted os started H enc)
end Go.Proofs.Ytlmlmgegnnikeaa.znsRaw

namespace Go.Proofs.Ytlmlmgegnnikeaa
theorem znsRaw_holds : Rows.ZnsRawSaid := znsRaw.over
end Go.Proofs.Ytlmlmgegnnikeaa
