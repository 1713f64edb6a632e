/- DurableRaw: the program's Allowed and Check answer as the document's own, for any events. No condition. -/
import Derived.Test.YtnmhnjjehglcfaaPack28
import Derived.Test.YtnmhnjjehglcfaaRows
import Derived.Lib.Hide
import Derived.Deep.Cut
import Derived.OpenShut
import Derived.ShutString
import Derived.ChangeArms
import Derived.ProofKit
import Derived.SizedLaws
import Derived.WalkKit
import Derived.SliceStrings
import Derived.ChangeOld
import Derived.Carry
import Derived.Below

/- The walk of the law DurableRaw. -/
namespace Go.Proofs.Ytnmhnjjehglcfaa.Ents
open Go.RowKit Plan HisMath LinMath DurMath ModMath CmdMath Rws Env LayMath
theorem wrap_sum (n p : Nat) (hn : n ≤ 8796093022208) (hp : p ≤ 8796093022208) : wrap64 ((n : Int) + (p : Int)) = ((n + p : Nat) : Int) ∧ IntKind.i64.wrap ((n : Int) + (p : Int)) = ((n + p : Nat) : Int) := by
  constructor
  · unfold wrap64; omega
  · rw [IntWalk.i64_in _ (by omega)]; omega
set_option maxHeartbeats 8000000 in
set_option maxRecDepth 20000 in
theorem durRaw_any (H : DurableOk) (F G I : Nat → Prop) (B : List ByteArray) (L : List Ev) (X : List ByteArray) (b : Int) (a a2 a3 : Option Addr) (n c m d p q : Nat) (w : World) (hl : SList w F a n c B) (hk : VList w G a2 m d L) (hx : SList w I a3 p q X) (hn : n ≤ 8796093022208) (hp : p ≤ 8796093022208) :
    Calls Try.prog 3 #[.slice a n c, .slice a2 m d, .int .i64 b, .slice a3 p q] w fun r w' => r = .returned (.bool true) ∧ Below w.heap.size w w' := by
  have HA := Lib.hid (fun W => durAwake_any H W)
  obtain ⟨hw1, hw2⟩ := wrap_sum n p hn hp
  have hmm : m ≤ maxLen := Nat.le_trans hk.cap.1 hk.cap.2
  unfold maxLen at hmm
  have hb := Below.refl w.heap.size w
  by_cases h1 : n + p ≤ 40
  · have s1 : ¬ (40 : Int) < ((n + p : Nat) : Int) := by omega
    have s2 : ¬ 40 < n + p := by omega
    by_cases h2 : m ≤ 60
    · have t1 : ¬ (60 : Int) < (m : Int) := by omega
      have t2 : ¬ 60 < m := by omega
      have HG := Lib.hid (fun W (h : Below w.heap.size w W) => durAgree_any H _ _ _ B L X b a a2 a3 n c m d p q W (hl.same h) (hk.same h) (hx.same h) (by clear hw1 hw2; omega) (by clear hw1 hw2; omega) (by clear hw1 hw2; omega))
      clear hl hk hx h1 h2 hn hp
      go_enter Try.func3, Try.ntmps3
      go_wp2_with (first
        | (go_at_call 7; ((with_reducible refine (HG.out _ hb).mono ?_); rintro r9 w8 ⟨rfl, h9⟩; replace hb := hb.trans (h9.mono hb.size); clear h9))
        | (go_at_call 6; ((with_reducible refine (HA.out _).mono ?_); rintro r9 w9 ⟨rfl, h9⟩; replace hb := hb.trans (h9.mono hb.size); clear h9)))
      go_ret
      exact ⟨rfl, hb⟩
    · have t1 : (60 : Int) < (m : Int) := by omega
      have t2 : 60 < m := by omega
      clear hl hk hx h1 h2 hn hp
      go_enter Try.func3, Try.ntmps3
      go_wp2_with (first
        | (go_at_call 6; ((with_reducible refine (HA.out _).mono ?_); rintro r9 w9 ⟨rfl, h9⟩; replace hb := hb.trans (h9.mono hb.size); clear h9)))
      go_ret
      exact ⟨rfl, hb⟩
  · have s1 : (40 : Int) < ((n + p : Nat) : Int) := by omega
    have s2 : 40 < n + p := by omega
    clear hl hk hx h1 hn hp
    go_enter Try.func3, Try.ntmps3
    go_wp2_with (first
      | (go_at_call 6; ((with_reducible refine (HA.out _).mono ?_); rintro r9 w9 ⟨rfl, h9⟩; replace hb := hb.trans (h9.mono hb.size); clear h9)))
    go_ret
    exact ⟨rfl, hb⟩
end Go.Proofs.Ytnmhnjjehglcfaa.Ents

/- Rings: what layer 16 of the document says of them. Plain mathematics. -/
namespace Go.Proofs.Ytnmhnjjehglcfaa.RingMath
structure Rq where
  serial : Int
  kind : Int
  block : Int
  data : ByteArray
end Go.Proofs.Ytnmhnjjehglcfaa.RingMath

/- Rings in memory; the walk of the document's Valid. -/
namespace Go.Proofs.Ytnmhnjjehglcfaa.Ents
open Go.RowKit Plan RingMath Rws
end Go.Proofs.Ytnmhnjjehglcfaa.Ents

/- Entries, places and lists of entries that come in. -/
namespace Go.Proofs.Ytnmhnjjehglcfaa.Ents
open Go.ChangeShapes Go.WideShapes Go.RowKit EntMath
set_option maxRecDepth 20000 in
theorem ent_cells_int : Try.prog.cellsOf 3 = 1 := by kernel_rfl
set_option maxRecDepth 20000 in
theorem ent_some {α : Type} {l : List α} {i n : Nat} (hl : l.length = n) (hi : i < n) : ∃ y, l[i]? = some y := ⟨l[i]'(by omega), List.getElem?_eq_getElem (by omega)⟩
section
variable {H : Type} {enc : TypeId × Value → H} {w : World} {base : Nat} {spare : Nat → Bool} {held : Bool}
end
end Go.Proofs.Ytnmhnjjehglcfaa.Ents

/- Lists of elements of any type that come in; how long they may be. -/
namespace Go.Proofs.Ytnmhnjjehglcfaa.Rws
open Go.ChangeShapes Go.WideShapes Go.RowKit Ents
section
variable {H : Type} {enc : TypeId × Value → H} {w : World} {base : Nat} {spare : Nat → Bool} {held : Bool} {α : Type} {R : Row α}
theorem rows_block {a : Addr} {i k n : Nat} {cs : List Value} (hk : 0 < k) (h : w.cells? n (a.add i) k = some cs) : a.block < w.heap.size := by
  obtain ⟨_, h1, h2⟩ := World.cells?_some h
  have h4 : cs[0]? = some (cs[0]'(by omega)) := List.getElem?_eq_getElem _
  have := World.block_lt_of_cell? w _ ((h2 0 hk).trans h4)
  rwa [ent_add_block, ent_add_block] at this
set_option maxRecDepth 20000 in
theorem trod_rows (hR : R.Ok) (hc : Try.prog.cellsOf R.et = R.sz) (hE : ∀ {fuel : Nat} {cs : List Value} {x : DataW H × List MemPlace}, DataW.trod enc Try.prog w base spare held fuel R.et cs = some x → ∃ e, cs = R.c e)
    (hs : ∀ b, spare b = true) {fuel : Nat} {cs : List Value} {x : DataW H × List MemPlace} (h : DataW.trod enc Try.prog w base spare held fuel R.st cs = some x) : ∃ a len cap L, cs = [.slice a len cap] ∧ TList R w (fun b => b < w.heap.size) a len cap L := by
  rcases DataW.trod_slice hR.und h with ⟨rfl, _⟩ | ⟨a, len, cap, elems, rest, n, _, rfl, _, _, hl, hm, hlen, hel, hsp, _⟩
  · exact ⟨none, 0, 0, [], rfl, .inl ⟨trivial, rfl, rfl, rfl⟩⟩
  rw [hc] at hel hsp
  by_cases hcap : cap = 0
  · subst hcap
    obtain rfl : len = 0 := by omega
    exact ⟨some a, 0, 0, [], rfl, .inl ⟨trivial, rfl, rfl, rfl⟩⟩
  have hblk : a.block < w.heap.size := by
    by_cases h0 : 0 < len
    · obtain ⟨y, hy⟩ := ent_some hlen h0
      have h1 := (hel 0 h0).trans hy
      rw [Option.bind_eq_some_iff] at h1
      obtain ⟨cs, hcs, _⟩ := h1
      exact rows_block hR.pos hcs
    · obtain ⟨hr, hre⟩ := hsp (hs _)
      obtain ⟨y, hy⟩ := ent_some hr (i := 0) (by omega)
      have h1 := (hre 0 (by omega)).trans hy
      rw [Option.bind_eq_some_iff] at h1
      obtain ⟨cs, hcs, _⟩ := h1
      exact rows_block hR.pos hcs
  have each : ∀ i, i < len → ∃ e : α, ∀ j u, (R.c e)[j]? = some u → w.cell? (a.add (i * R.sz + j)) = some u := by
    intro i hi
    obtain ⟨y, hy⟩ := ent_some hlen hi
    have h1 := (hel i hi).trans hy
    rw [Option.bind_eq_some_iff] at h1
    obtain ⟨cs, hcs, ht⟩ := h1
    obtain ⟨e, rfl⟩ := hE ht
    refine ⟨e, fun j u hu => ?_⟩
    obtain ⟨h1, h2⟩ := World.cells?_some hcs
    have hj : j < R.sz := by have := (List.getElem?_eq_some_iff.1 hu).1; rwa [hR.len] at this
    have := (h2.2 j hj).trans hu
    rwa [Addr.add_add] at this
  have build : ∀ n, n ≤ len → ∃ L : List α, L.length = n ∧ ∀ j u, (R.all L)[j]? = some u → w.cell? (a.add j) = some u := by
    intro n
    induction n with
    | zero => intro _; exact ⟨[], rfl, fun j u hu => by simp [Row.all] at hu⟩
    | succ n ih =>
      intro hn
      obtain ⟨L, hL, hall⟩ := ih (by omega)
      obtain ⟨e, he⟩ := each n (by omega)
      refine ⟨L ++ [e], by simp [hL], fun j u hu => ?_⟩
      rw [all_append, all_one] at hu
      rcases Nat.lt_or_ge j (n * R.sz) with hj | hj
      · rw [List.getElem?_append_left (by rw [all_length hR, hL]; exact hj)] at hu
        exact hall j u hu
      · rw [List.getElem?_append_right (by rw [all_length hR, hL]; exact hj), all_length hR, hL] at hu
        have := he (j - n * R.sz) u hu
        rwa [show n * R.sz + (j - n * R.sz) = j by omega] at this
  obtain ⟨L, hL, hall⟩ := build len (Nat.le_refl _)
  exact ⟨some a, len, cap, L, rfl, .inr ⟨a, rfl, hl, hm, hL, hblk, hblk, hall⟩⟩
end
end Go.Proofs.Ytnmhnjjehglcfaa.Rws

/- Requests and rings that come in. -/
namespace Go.Proofs.Ytnmhnjjehglcfaa.Ents
open Go.ChangeShapes Go.WideShapes Go.RowKit RingMath Rws
set_option maxRecDepth 20000 in
theorem comd_cells : Try.prog.cellsOf 36 = 3 := by kernel_rfl
set_option maxRecDepth 20000 in
theorem rstr_cells : Try.prog.cellsOf 9 = 1 := by kernel_rfl
section
variable {H : Type} {enc : TypeId × Value → H} {w : World} {base : Nat} {spare : Nat → Bool}
set_option maxRecDepth 20000 in
theorem trod_comd {held : Bool} {fuel : Nat} {cs : List Value} {x : DataW H × List MemPlace} (h : DataW.trod enc Try.prog w base spare held fuel 36 cs = some x) : ∃ (k b : Int) (s : ByteArray), cs = [.int .i64 k, .int .i64 b, .string s] ∧ s.size ≤ maxLen := by
  obtain ⟨xs, n, _, _, hl4, hlen, hg⟩ := DataW.trod_struct Try.underlying36 h
  rw [comd_cells] at hl4
  match cs, hl4 with
  | [x0, x1, x2], _ =>
    have hl : xs.length = 3 := hlen
    obtain ⟨y0, e0⟩ := ent_some hl (i := 0) (by decide)
    obtain ⟨y1, e1⟩ := ent_some hl (i := 1) (by decide)
    obtain ⟨y2, e2⟩ := ent_some hl (i := 2) (by decide)
    have g0 : DataW.trod enc Try.prog w base spare held n 3 (([x0, x1, x2].drop 0).take (Try.prog.cellsOf 3)) = some y0 := (hg 0 _ rfl).trans e0
    rw [ent_cells_int] at g0
    have g1 : DataW.trod enc Try.prog w base spare held n 3 (([x0, x1, x2].drop 1).take (Try.prog.cellsOf 3)) = some y1 := (hg 1 _ rfl).trans e1
    rw [ent_cells_int] at g1
    have g2 : DataW.trod enc Try.prog w base spare held n 9 (([x0, x1, x2].drop 2).take (Try.prog.cellsOf 9)) = some y2 := (hg 2 _ rfl).trans e2
    rw [rstr_cells] at g2
    obtain ⟨k, h0, _⟩ := DataW.trod_int Try.underlying3 g0
    obtain ⟨b, h1, _⟩ := DataW.trod_int Try.underlying3 g1
    obtain ⟨s, h2, _, w2⟩ := DataW.trod_string Try.underlying9 g2
    simp at h0 h1 h2
    exact ⟨k, b, s, by rw [h0, h1, h2], w2⟩
end
end Go.Proofs.Ytnmhnjjehglcfaa.Ents

/- Lists of events that come in. -/
namespace Go.Proofs.Ytnmhnjjehglcfaa.Ents
open Go.ChangeShapes Go.WideShapes Go.RowKit HisMath Rws
set_option maxRecDepth 20000 in
theorem ev_cellsOf : Try.prog.cellsOf 41 = 8 := by kernel_rfl
set_option maxRecDepth 20000 in
theorem res_cellsOf : Try.prog.cellsOf 39 = 2 := by kernel_rfl
set_option maxRecDepth 20000 in
theorem errno_cellsOf : Try.prog.cellsOf 37 = 1 := by kernel_rfl
set_option maxRecDepth 20000 in
theorem bool_cellsOf : Try.prog.cellsOf 4 = 1 := by kernel_rfl
set_option maxRecDepth 20000 in
theorem vr_cellsOf : Try.prog.cellsOf VR.et = VR.sz := by kernel_rfl
section
variable {H : Type} {enc : TypeId × Value → H} {w : World} {base : Nat} {spare : Nat → Bool}
set_option maxRecDepth 20000 in
theorem trod_result {held : Bool} {fuel : Nat} {cs : List Value} {x : DataW H × List MemPlace} (h : DataW.trod enc Try.prog w base spare held fuel 39 cs = some x) : ∃ (k : Int) (s : ByteArray), cs = [.int .i64 k, .string s] := by
  obtain ⟨xs, n, _, _, hl4, hlen, hg⟩ := DataW.trod_struct Try.underlying39 h
  rw [res_cellsOf] at hl4
  match cs, hl4 with
  | [x0, x1], _ =>
    have hl : xs.length = 2 := hlen
    obtain ⟨y0, e0⟩ := ent_some hl (i := 0) (by decide)
    obtain ⟨y1, e1⟩ := ent_some hl (i := 1) (by decide)
    have g0 : DataW.trod enc Try.prog w base spare held n 37 (([x0, x1].drop 0).take (Try.prog.cellsOf 37)) = some y0 := (hg 0 _ rfl).trans e0
    rw [errno_cellsOf] at g0
    have g1 : DataW.trod enc Try.prog w base spare held n 9 (([x0, x1].drop 1).take (Try.prog.cellsOf 9)) = some y1 := (hg 1 _ rfl).trans e1
    rw [rstr_cells] at g1
    obtain ⟨k, h0, _⟩ := DataW.trod_int Try.underlying37 g0
    obtain ⟨s, h1, _, _⟩ := DataW.trod_string Try.underlying9 g1
    simp at h0 h1
    exact ⟨k, s, by rw [h0, h1]⟩
set_option maxRecDepth 20000 in
theorem trod_event {held : Bool} {fuel : Nat} {cs : List Value} {x : DataW H × List MemPlace} (h : DataW.trod enc Try.prog w base spare held fuel 41 cs = some x) : ∃ r : Ev, cs = VR.c r := by
  obtain ⟨xs, n, _, _, hl4, hlen, hg⟩ := DataW.trod_struct Try.underlying41 h
  rw [ev_cellsOf] at hl4
  match cs, hl4 with
  | [x0, x1, x2, x3, x4, x5, x6, x7], _ =>
    have hl : xs.length = 5 := hlen
    obtain ⟨y0, e0⟩ := ent_some hl (i := 0) (by decide)
    obtain ⟨y1, e1⟩ := ent_some hl (i := 1) (by decide)
    obtain ⟨y2, e2⟩ := ent_some hl (i := 2) (by decide)
    obtain ⟨y3, e3⟩ := ent_some hl (i := 3) (by decide)
    obtain ⟨y4, e4⟩ := ent_some hl (i := 4) (by decide)
    have g0 : DataW.trod enc Try.prog w base spare held n 4 (([x0, x1, x2, x3, x4, x5, x6, x7].drop 0).take (Try.prog.cellsOf 4)) = some y0 := (hg 0 _ rfl).trans e0
    rw [bool_cellsOf] at g0
    have g1 : DataW.trod enc Try.prog w base spare held n 3 (([x0, x1, x2, x3, x4, x5, x6, x7].drop 1).take (Try.prog.cellsOf 3)) = some y1 := (hg 1 _ rfl).trans e1
    rw [ent_cells_int] at g1
    have g2 : DataW.trod enc Try.prog w base spare held n 3 (([x0, x1, x2, x3, x4, x5, x6, x7].drop 2).take (Try.prog.cellsOf 3)) = some y2 := (hg 2 _ rfl).trans e2
    rw [ent_cells_int] at g2
    have g3 : DataW.trod enc Try.prog w base spare held n 36 (([x0, x1, x2, x3, x4, x5, x6, x7].drop 3).take (Try.prog.cellsOf 36)) = some y3 := (hg 3 _ rfl).trans e3
    rw [comd_cells] at g3
    have g4 : DataW.trod enc Try.prog w base spare held n 39 (([x0, x1, x2, x3, x4, x5, x6, x7].drop 6).take (Try.prog.cellsOf 39)) = some y4 := (hg 4 _ rfl).trans e4
    rw [res_cellsOf] at g4
    obtain ⟨r, h0, _⟩ := DataW.trod_bool Try.underlying4 g0
    obtain ⟨q, h1, _⟩ := DataW.trod_int Try.underlying3 g1
    obtain ⟨z, h2, _⟩ := DataW.trod_int Try.underlying3 g2
    obtain ⟨k, b, s, h3, _⟩ := trod_comd g3
    obtain ⟨e, t, h4⟩ := trod_result g4
    simp at h0 h1 h2 h3 h4
    exact ⟨⟨r, q, z, k, b, s, e, t⟩, by rw [h0, h1, h2, h3.1, h3.2.1, h3.2.2, h4.1, h4.2]; rfl⟩
set_option maxRecDepth 20000 in
theorem open_evs {r : Reach} {b0 : Nat} {v : Value} {d : DataW H} {p : List MemPlace} (hs : ∀ b, spare b = true)
    (hok : Value.okWide Try.prog w r b0 23 v) (h : DataW.Trod enc Try.prog w base spare true 23 v d p) :
    ∃ (a : Option Addr) (n c : Nat) (L : List Ev), v = .slice a n c ∧ VList w (fun b => b < w.heap.size) a n c L := by
  obtain ⟨a, n, c, rfl⟩ := okWide_slice Try.underlying23 hok
  obtain ⟨fuel, hf⟩ := h
  obtain ⟨b, m, k, L, e, h2⟩ := trod_rows vrOk vr_cellsOf (fun h => trod_event h) hs hf
  simp [Value.cells] at e
  obtain ⟨rfl, rfl, rfl⟩ := e
  exact ⟨_, _, _, L, rfl, h2⟩
end
end Go.Proofs.Ytnmhnjjehglcfaa.Ents

/- Lists of strings and of commands that come in. -/
namespace Go.Proofs.Ytnmhnjjehglcfaa.Ents
open Go.ChangeShapes Go.WideShapes Go.RowKit ModMath CmdMath Rws
set_option maxRecDepth 20000 in
theorem mstr_cells : Try.prog.cellsOf SR.et = SR.sz := by kernel_rfl
set_option maxRecDepth 20000 in
theorem mstr_bytes : Try.prog.bytesOf SR.et = SR.wide := by kernel_rfl
section
variable {H : Type} {enc : TypeId × Value → H} {w : World} {base : Nat} {spare : Nat → Bool}
set_option maxRecDepth 20000 in
theorem rows_wide {held : Bool} {α : Type} {R : Row α} (hR : R.Ok) (hb : Try.prog.bytesOf R.et = R.wide) {fuel : Nat} {b : Option Addr} {m k : Nat} {x : DataW H × List MemPlace} (h : DataW.trod enc Try.prog w base spare held fuel R.st [.slice b m k] = some x) (hr : ∀ y ∈ x.1.weights Try.prog R.st, y ≤ reachBytes) : m * R.wide ≤ reachBytes := by
  rcases DataW.trod_slice hR.und h with ⟨hc, _⟩ | ⟨a', len', cap', elems, rest, n', _, hc, hy, _, _, _, hel, _, _, _⟩
  · simp at hc
    rw [hc.2.1, Nat.zero_mul]
    exact Nat.zero_le _
  · simp at hc
    obtain ⟨-, rfl, rfl⟩ := hc
    have h1 := hr ((elems.length + rest.length) * R.wide) (by rw [hy]; simp [DataW.weights, hR.und, hb])
    have h3 : m ≤ elems.length + rest.length := by omega
    exact Nat.le_trans (Nat.mul_le_mul_right _ h3) h1
set_option maxRecDepth 20000 in
theorem open_strs {r : Reach} {b0 : Nat} {v : Value} {d : DataW H} {p : List MemPlace} (hs : ∀ b, spare b = true)
    (hok : Value.okWide Try.prog w r b0 22 v) (h : DataW.Trod enc Try.prog w base spare true 22 v d p) :
    ∃ (a : Option Addr) (n c : Nat) (L : List ByteArray), v = .slice a n c ∧ SList w (fun b => b < w.heap.size) a n c L := by
  obtain ⟨a, n, c, rfl⟩ := okWide_slice Try.underlying22 hok
  obtain ⟨fuel, hf⟩ := h
  obtain ⟨b, m, k, L, e, h2⟩ := trod_rows srOk mstr_cells (fun h => by
    obtain ⟨s, h2, _, w2⟩ := DataW.trod_string Try.underlying9 h
    exact ⟨s, show _ = [Value.string s] by simpa using h2⟩) hs hf
  simp [Value.cells] at e
  obtain ⟨rfl, rfl, rfl⟩ := e
  exact ⟨_, _, _, L, rfl, h2⟩
set_option maxRecDepth 20000 in
theorem strs_len {held : Bool} {a : Option Addr} {n c : Nat} {dd : DataW H} {p : List MemPlace} (h : DataW.Trod enc Try.prog w base spare held 22 (.slice a n c) dd p)
    (hr : ∀ y ∈ dd.weights Try.prog 22, y ≤ reachBytes) : n ≤ 8796093022208 := by
  obtain ⟨fuel, hf⟩ := h
  have h1 := rows_wide srOk mstr_bytes hf hr
  have h2 := reachBytes_lt
  rw [show SR.wide = 16 from rfl] at h1
  omega
end
end Go.Proofs.Ytnmhnjjehglcfaa.Ents

/- DurableRaw: the program's Allowed and Check answer as the document's own, for any events. No condition. -/
namespace Go.Proofs.Ytnmhnjjehglcfaa.durableRaw
open Go.ChangeShapes Go.WideShapes Go.ChangeAt Go.RowKit
open Go.ChangeMaps (open_string shut_string)
set_option linter.unusedVariables false

theorem own : ownKnob Try.prog.godebug = none := by kernel_rfl
theorem laidOut : laidOutB Try.prog = true := by kernel_rfl

theorem walk (sa0 : Option Addr) (sn0 sc0 : Nat) (sl0 : List ByteArray) (ea1 : Option Addr) (en1 ec1 : Nat) (el1 : List HisMath.Ev) (a2 : Int) (w2 : (Lit.int .i64 a2).wf = true) (sa3 : Option Addr) (sn3 sc3 : Nat) (sl3 : List ByteArray) (w : World) (hm : sn0 ≤ 8796093022208) (hp : sn3 ≤ 8796093022208) (w0 : Ents.SList w (fun b => b < w.heap.size) sa0 sn0 sc0 sl0) (w1 : Ents.VList w (fun b => b < w.heap.size) ea1 en1 ec1 el1) (w3 : Ents.SList w (fun b => b < w.heap.size) sa3 sn3 sc3 sl3) :
    Calls Try.prog 3 #[.slice sa0 sn0 sc0, .slice ea1 en1 ec1, .int .i64 a2, .slice sa3 sn3 sc3] w fun e w' => e = .returned (.bool true) ∧ Below w.heap.size w w' := by
  exact Ents.durRaw_any Ents.durableOk _ _ _ sl0 el1 sl3 a2 sa0 ea1 sa3 sn0 sc0 en1 ec1 sn3 sc3 w w0 w1 w3 hm hp

set_option maxRecDepth 100000 in
theorem lifted (os : Os) (started : os.Started) (H : Type) (enc : TypeId × Value → H) :
    ReturnsInHanded {} Try.checked os 3 .any (Rows.durableRawSpec.pre6 enc Try.prog Try.f3 Rows.durableRawRow.domain false) (Rows.durableRawSpec.post enc Try.prog Try.f3 false true false false) := by
  refine returnsInHanded_of_change_sized (C := Try.checked) own started (by kernel_rfl) Try.func3
    (ChangeSpec.witness6 (enc := enc) (C := Try.checked) false ⟨#[], #[.slice none 0 0, .slice none 0 0, .int .i64 0, .slice none 0 0], []⟩ 8 (by kernel_rfl) (by kernel_rfl) (by kernel_rfl) (by kernel_rfl)) ?_
  intro W base args ds gs before hval0 hW hcnd hsz0 _
  have hsz : (DataW.weightsEach Try.prog (Try.f3.params.toList ++ Rows.durableRawSpec.plain.varTypes Try.prog) (ds ++ gs)).all (· ≤ reachBytes) = true := hsz0
  have hval : ∀ (j : Nat) t v, Try.f3.params[j]? = some t → args[j]? = some v → Value.okWide Try.prog W .any base t v := hval0
  have hW' := hW
  obtain ⟨p, q, hA0, hV, rfl, hfz, hnd⟩ := hW
  have hA : DataW.TrodAll enc Try.prog W 0 (fun _ => true) true Try.f3.params.toList args.toList ds p := hA0
  rw [Try.params3] at hA hval hsz
  obtain ⟨v0, vs0, d0, ds0, p0, q0, hargs, rfl, rfl, h0, r0⟩ := trodAll_cons hA
  obtain ⟨v1, vs1, d1, ds1, p1, q1, rfl, rfl, rfl, h1, r1⟩ := trodAll_cons r0
  obtain ⟨v2, vs2, d2, ds2, p2, q2, rfl, rfl, rfl, h2, r2⟩ := trodAll_cons r1
  obtain ⟨v3, vs3, d3, ds3, p3, q3, rfl, rfl, rfl, h3, r3⟩ := trodAll_cons r2
  obtain ⟨rfl, rfl, rfl⟩ := trodAll_nil r3
  obtain rfl : args = #[v0, v1, v2, v3] := by cases args; simp_all
  obtain ⟨rfl, rfl⟩ := trodVars_none hV
  have k0' := h0
  have lt0 : ∀ x ∈ p0, x.block < W.heap.size := by obtain ⟨m, hm⟩ := h0; exact DataW.trod_lt m _ _ _ hm
  have k1' := h1
  have lt1 : ∀ x ∈ p1, x.block < W.heap.size := by obtain ⟨m, hm⟩ := h1; exact DataW.trod_lt m _ _ _ hm
  have k2' := h2
  have lt2 : ∀ x ∈ p2, x.block < W.heap.size := by obtain ⟨m, hm⟩ := h2; exact DataW.trod_lt m _ _ _ hm
  have k3' := h3
  have lt3 : ∀ x ∈ p3, x.block < W.heap.size := by obtain ⟨m, hm⟩ := h3; exact DataW.trod_lt m _ _ _ hm
  obtain ⟨sa0, sn0, sc0, sl0, rfl, w0⟩ := Ents.open_strs (fun _ => rfl) (hval 0 22 v0 rfl rfl) h0
  obtain ⟨ea1, en1, ec1, el1, rfl, w1⟩ := Ents.open_evs (fun _ => rfl) (hval 1 23 v1 rfl rfl) h1
  obtain ⟨a2, rfl, _, _, w2⟩ := open_int Try.underlying3 (hval 2 3 v2 rfl rfl) h2
  obtain ⟨sa3, sn3, sc3, sl3, rfl, w3⟩ := Ents.open_strs (fun _ => rfl) (hval 3 22 v3 rfl rfl) h3
  have hm := Ents.strs_len h0 (fun y hy => of_decide_eq_true (List.all_eq_true.1 hsz y (DataW.weights_mem_each (j := 0) (t := 22) rfl rfl y hy)))
  have hp := Ents.strs_len h3 (fun y hy => of_decide_eq_true (List.all_eq_true.1 hsz y (DataW.weights_mem_each (j := 3) (t := 22) rfl rfl y hy)))
  clear hA0 hval0 hsz hsz0
  refine (walk sa0 sn0 sc0 sl0 ea1 en1 ec1 el1 a2 w2 sa3 sn3 sc3 sl3 W hm hp w0 w1 w3).mono fun e W' ⟨he, bel⟩ => ?_
  subst he
  exact ⟨_, rfl, _, _, _, [], _, [], hW', trodAll_mk1 (shut_bool Try.underlying4 _), (trodAll_cons_mk (Below.trod laidOut (by kernel_rfl) (of_decide_eq_true (by kernel_rfl)) k0' bel lt0) (trodAll_cons_mk (Below.trod laidOut (by kernel_rfl) (of_decide_eq_true (by kernel_rfl)) k1' bel lt1) (trodAll_cons_mk (Below.trod laidOut (by kernel_rfl) (of_decide_eq_true (by kernel_rfl)) k2' bel lt2) (trodAll_cons_mk (Below.trod laidOut (by kernel_rfl) (of_decide_eq_true (by kernel_rfl)) k3' bel lt3) trodAll_mk0)))), rfl, bel.frame _, fun h => by cases h⟩

theorem over : Rows.durableRawRow.holds Try.pinned (OpenSpec.ofChange Rows.durableRawSpec) :=
  OpenClaim.holds_of_wide 3 Try.f3 rfl rfl rfl rfl rfl rfl rfl ⟨rfl, rfl, rfl, rfl, rfl⟩ rfl rfl rfl rfl rfl (by kernel_rfl) Try.func3 (by kernel_rfl)
    (of_decide_eq_true (by kernel_rfl)) (by unfold Func.isWrapper; first | (rw [if_pos (by decide +kernel)]; kernel_rfl) | (rw [if_neg (by decide +kernel)]; exact ⟨rfl, rfl⟩))
    (fun os started H enc _ => lifted os started H enc)
end Go.Proofs.Ytnmhnjjehglcfaa.durableRaw

namespace Go.Proofs.Ytnmhnjjehglcfaa
theorem durableRaw_holds : Rows.DurableRawSaid := durableRaw.over
end Go.Proofs.Ytnmhnjjehglcfaa
