/- Texts that belong together, part 18. -/
import Derived.Test.YtbfoagfemgogkaaPack17
import Derived.MapKept
import Derived.RangeFuncNested
import Derived.Lib.AppendZerosOnto
import Derived.Lib.AppendZeros
import Derived.RangeFuncBound
import Derived.RangeFuncCalls
import Derived.RangeFuncLeaves
import Derived.Shelf.Abstract
import Derived.WalkKit
import Derived.OwnWalkIn
import Derived.TacticsInMore
import Derived.LoopNIn
import Derived.LoopIn

/- A map that holds true at each zone that has come: asked, and written. -/
namespace Go.Proofs.Ytbfoagfemgogkaa.Ents
open Go.RowKit Plan EntMath CntMath EpoMath Rws
open MapKept (IsKey findNow_spec run_checkKey run_findKey run_setObj_map)
/-- block B is a map that holds true at the zone of each one of a list -/
def Seen (W : World) (B : Nat) (L : List Ret) : Prop :=
  ∃ es ck, W.heap[B]? = some (.map es ck) ∧ (∀ e ∈ es.toList, ∃ z : Int, e.key = .int .i64 z ∧ e.val = .bool true) ∧ ∀ z : Int, (∃ e ∈ es.toList, e.key = .int .i64 z) ↔ isRet L z = true
theorem Seen.new {W : World} {B : Nat} (h : W.heap[B]? = some (.map #[] 0)) : Seen W B [] :=
  ⟨_, _, h, by simp, by simp [isRet]⟩
theorem Seen.on {W W' : World} {B : Nat} {L : List Ret} (h : Seen W B L) (hb : W'.heap[B]? = W.heap[B]?) : Seen W' B L := by
  obtain ⟨es, ck, h1, h2⟩ := h
  exact ⟨es, ck, hb.trans h1, h2⟩
theorem Seen.lt {W : World} {B : Nat} {L : List Ret} (h : Seen W B L) : B < W.heap.size := by
  obtain ⟨es, ck, h1, h2⟩ := h
  exact (Array.getElem?_eq_some_iff.1 h1).1
theorem seen_und : Try.prog.underlying 67 = some (.map 3 4) := by kernel_rfl
theorem seen_look {W : World} {B : Nat} {L : List Ret} (h : Seen W B L) (z : Int) : (Instr.lookup 67 (.map (some B)) (.int .i64 z) false).run Try.prog W = .ok (.bool (isRet L z)) W := by
  obtain ⟨es, ck, hb, hk, hs⟩ := h
  have hkey : IsKey (.int .i64) (.int .i64 z) := rfl
  have hall : ∀ x ∈ es.toList, IsKey (.int .i64) x.key := fun x hx => by obtain ⟨y, hy, _⟩ := hk x hx; rw [hy]; rfl
  rcases findNow_spec hkey es.toList 0 hall with ⟨h1, h2⟩ | ⟨j, e, h1, h2, h3⟩
  · have hr : isRet L z = false := by
      cases hq : isRet L z
      · rfl
      · obtain ⟨e, he, hz⟩ := (hs z).2 hq
        exact absurd hz (h2 e he)
    rw [hr]
    simp [Instr.lookup, run_underlying seen_und, MapKept.run_getObj_map hb, run_checkKey Try.underlying3 hkey, run_findKey Try.underlying3 h1, Result.andThen]
  · have he : e ∈ es.toList := List.mem_of_getElem? h2
    obtain ⟨y, hy, hv⟩ := hk e he
    have hr : isRet L z = true := (hs z).1 ⟨e, he, h3⟩
    rw [hr]
    simp [Instr.lookup, run_underlying seen_und, MapKept.run_getObj_map hb, run_checkKey Try.underlying3 hkey, run_findKey Try.underlying3 h1, hv, Result.andThen]
theorem seen_put {W : World} {B : Nat} {L : List Ret} (h : Seen W B L) (r : Ret) (hr : isRet L r.zone = false) :
    ∃ W', (Instr.mapUpdate 67 (.map (some B)) (.int .i64 r.zone) (.bool true)).run Try.prog W = .ok () W' ∧ Seen W' B (L ++ [r]) ∧ W.grownBy W' (some B) := by
  obtain ⟨es, ck, hb, hk, hs⟩ := h
  have hkey : IsKey (.int .i64) (.int .i64 r.zone) := rfl
  have hall : ∀ x ∈ es.toList, IsKey (.int .i64) x.key := fun x hx => by obtain ⟨y, hy, _⟩ := hk x hx; rw [hy]; rfl
  rcases findNow_spec hkey es.toList 0 hall with ⟨h1, h2⟩ | ⟨j, e, h1, h2, h3⟩
  · refine ⟨W.putObj B (.map (es.push { key := .int .i64 r.zone, val := .bool true, born := ck }) (ck + 1)), ?_, ⟨_, _, World.putObj_heap_same (Array.getElem?_eq_some_iff.1 hb).1, ?_, ?_⟩, grownBy_putObj' W B _⟩
    · simp [Instr.mapUpdate, run_underlying seen_und, MapKept.run_getObj_map hb, run_checkKey Try.underlying3 hkey, run_findKey Try.underlying3 h1, run_setObj_map _ hb, Result.andThen, World.putObj]
    · intro x hx
      simp only [Array.toList_push, List.mem_append, List.mem_singleton] at hx
      rcases hx with hx | rfl
      · exact hk x hx
      · exact ⟨_, rfl, rfl⟩
    · intro z
      rw [ret_snoc, Bool.or_eq_true, decide_eq_true_eq, ← hs z]
      simp only [Array.toList_push, List.mem_append, List.mem_singleton]
      constructor
      · rintro ⟨x, hx | rfl, hz⟩
        · exact .inl ⟨x, hx, hz⟩
        · exact .inr (by cases hz; rfl)
      · rintro (⟨x, hx, hz⟩ | rfl)
        · exact ⟨x, .inl hx, hz⟩
        · exact ⟨_, .inr rfl, rfl⟩
  · have he : e ∈ es.toList := List.mem_of_getElem? h2
    have := (hs r.zone).1 ⟨e, he, h3⟩
    rw [hr] at this
    cases this
end Go.Proofs.Ytbfoagfemgogkaa.Ents

/- The walks of the library's Grow from nil and of its Concat, at retired zones. -/
namespace Go.Proofs.Ytbfoagfemgogkaa.Ents
open Go.RowKit Plan EntMath CntMath EpoMath Rws
/-- a list of the call's own that is empty, with room -/
def GrowP (w : World) (r : Ending) (w' : World) : Prop := ∃ v, r = .returned v ∧ w'.ownsRow w.heap.size RR.et RR.sz v 0 (RR.all []) ∧ Below w.heap.size w w'
set_option maxRecDepth 20000 in
set_option maxHeartbeats 1000000 in
theorem rgrow_any (n : Nat) (w : World) (hm : n ≤ 1000000) :
    Calls Try.prog 47 #[.slice none 0 0, .int .i64 n] w (GrowP w) := by
  unfold GrowP
  by_cases h0 : 0 < n
  · obtain ⟨i1, hi1, hy0, hy1, hy2'⟩ := info_parts rrOk.info
    have hy2 : i1.bytes = 16 := hy2'
    have hy3 : i1.size = 2 := hy1
    have hrz : ∀ ty, (Builtin.append_ #[23, 3] ty #[.slice none 0 0, .int .i64 (n : Int)]).run Try.prog w = .ok (.slice (some ⟨w.heap.size, 0, none⟩) (0 + n) (grownCap w (0 + n) 0 48)) (w.drew.alloc (.cells (#[] ++ Builtin.zeroCells RR.zero.cells n ++ Builtin.zeroCells RR.zero.cells (grownCap w (0 + n) 0 48 - (0 + n))) 48)) := fun ty =>
      Lib.run_append_grow_zeros w 23 3 ty 48 i1 RR.zero .i64 .i64 Try.underlying23 Try.underlying3 hi1 hy0 none 0 0 [] (run_firstCells_none _ _ _ _ _) n h0 (by omega) (by omega) (by omega) (by rw [hy2]; omega) (growslice_fits (by omega) (by rw [hy2]; omega))
    have hge := grownCap_ge w (0 + n) 0 48
    have hle := grownCap_le_maxLen w (0 + n) 0 48 (by unfold maxLen; omega)
    generalize grownCap w (0 + n) 0 48 = C at *
    have hsz : (#[] ++ Builtin.zeroCells RR.zero.cells n ++ Builtin.zeroCells RR.zero.cells (C - (0 + n))).size = C * 2 := by
      have hz : RR.zero.cells.size = 2 := rfl
      rw [Array.size_append, Array.size_append, size_zeroCells, size_zeroCells, hz]
      simp
      omega
    generalize (#[] ++ Builtin.zeroCells RR.zero.cells n ++ Builtin.zeroCells RR.zero.cells (C - (0 + n))) = Z at *
    have hb : Below w.heap.size w (w.drew.alloc (.cells Z 48)) := (Below.refl w.heap.size w).drew.alloc (Nat.le_refl _) _
    have hown : (w.drew.alloc (.cells Z 48)).ownsRow w.heap.size RR.et RR.sz (.slice (some ⟨w.heap.size, 0, none⟩) 0 C) 0 (RR.all []) :=
      ⟨rfl, .inr ⟨w.heap.size, C, Z, rfl, Nat.le_refl _, heap_alloc_new w.drew (.cells Z 48), Nat.zero_le _, hle, hsz, by simp [Row.all]⟩⟩
    rw [Nat.zero_add] at hrz hge
    generalize hW : w.drew.alloc (.cells Z 48) = W at *
    unfold maxLen at hle
    have hnI : (0 : Int) < (n : Int) := by omega
    have HO := Lib.hid hown
    clear hsz hown hW
    go_enter Try.func47, Try.ntmps47
    go_wp2_with (at_builtin; refine Lib.wpList_append_run _ rfl _ _ _ _ rfl _ _ rfl rfl _ _ (hrz _) ?_)
    go_ret
    exact ⟨_, rfl, HO.out, hb⟩
  · obtain rfl : n = 0 := by omega
    have HO := Lib.hid (own_none RR w w.heap.size)
    go_enter Try.func47, Try.ntmps47
    go_wp2_with fail
    go_ret
    exact ⟨_, rfl, HO.out, Below.refl _ _⟩
/-- lists of retired zones, one beside the other -/
structure RListsAt (w : World) (F : Nat → Prop) (x : Addr) (Ls : List (List Ret)) : Prop where
  at' : ∀ (i : Nat) L, Ls[i]? = some L → ∃ a n c, w.cell? (x.add i) = some (.slice a n c) ∧ RList w F a n c L
theorem RListsAt.low {w : World} {F : Nat → Prop} {x : Addr} {Ls : List (List Ret)} (h : RListsAt w F x Ls) : RListsAt w (fun b => b < w.heap.size) x Ls :=
  ⟨fun i L hi => by obtain ⟨a, n, c, h1, h2⟩ := h.at' i L hi; exact ⟨a, n, c, h1, h2.low⟩⟩
theorem RListsAt.keep {w w' : World} {x : Addr} {Ls : List (List Ret)} (h : RListsAt w (fun b => b < w.heap.size) x Ls) (hb : Below w.heap.size w w') : RListsAt w' (fun b => b < w.heap.size) x Ls :=
  ⟨fun i L hi => by
    obtain ⟨a, n, c, h1, h2⟩ := h.at' i L hi
    exact ⟨a, n, c, (hb.cell (World.block_lt_of_cell? w _ h1)).trans h1, h2.on (Same.low hb)⟩⟩
theorem rflat_next {Ls : List (List Ret)} {i : Nat} {L : List Ret} (h : Ls[i]? = some L) : (Ls.take (i + 1)).flatten = (Ls.take i).flatten ++ L := by
  rw [List.take_add_one, h, List.flatten_append]
  simp
theorem rflat_le (Ls : List (List Ret)) (i : Nat) : ((Ls.take i).flatten).length ≤ Ls.flatten.length := by
  have := congrArg (fun l => (List.flatten l).length) (List.take_append_drop i Ls)
  simp only [List.flatten_append, List.length_append] at this
  omega
/-- a list of the call's own -/
def CatP (w : World) (L : List Ret) (r : Ending) (w' : World) : Prop := ∃ a n c, r = .returned (.slice a n c) ∧ RList w' (fun b => w.heap.size ≤ b) a n c L ∧ Below w.heap.size w w'
set_option maxHeartbeats 2000000 in
set_option maxRecDepth 20000 in
theorem rconcat_any (F : Nat → Prop) (Ls : List (List Ret)) (x : Addr) (m cap : Nat) (w : World) (hl : RListsAt w F x Ls) (hlen : Ls.length = m) (hmm : m ≤ 1000) (hm : Ls.flatten.length ≤ 900000) :
    Calls Try.prog 38 #[.slice (some x) m cap] w (CatP w Ls.flatten) := by
  have HL := Lib.hid (fun W (h : Below w.heap.size w W) i (hi : i < m) => (show ∃ L a n c, Ls[i]? = some L ∧ W.cell? (x.add i) = some (.slice a n c) ∧ RList W (fun b => b < w.heap.size) a n c L ∧ (Ls.take (i + 1)).flatten = (Ls.take i).flatten ++ L ∧ ((Ls.take i).flatten).length + n ≤ 900000 from by
    have hi2 : Ls[i]? = some (Ls[i]'(by omega)) := List.getElem?_eq_getElem _
    obtain ⟨a, n, c, h1, h2⟩ := (RListsAt.keep hl.low h).at' i _ hi2
    have h3 := rflat_next hi2
    have h4 := rflat_le Ls (i + 1)
    rw [h3, List.length_append, h2.length] at h4
    exact ⟨_, a, n, c, hi2, h1, h2, h3, by omega⟩))
  have HT0 : RowKit.Hid ((Ls.take 0).flatten = []) := Lib.hid (by simp)
  have HTm : RowKit.Hid ((Ls.take m).flatten = Ls.flatten) := Lib.hid (by rw [List.take_of_length_le (by omega)])
  unfold CatP
  generalize Ls.flatten = R at *
  clear hl hlen
  go_enter Try.func38, Try.ntmps38
  go_wp2_with fail
  go_loopw [3, 11] (fun s c wr => ∃ i : Nat, c = .int .i64 (i : Int) ∧ i ≤ m ∧ s = .int .i64 (((Ls.take i).flatten.length : Nat) : Int) ∧ wr = w) (fun _ c _ => m - (intOf c).toNat)
  case atStart => exact ⟨0, rfl, by omega, by rw [HT0.out]; rfl, rfl⟩
  case round =>
    obtain ⟨i, rfl, hi, rfl, hww⟩ := hrel
    have h9 : w = wr := hww.symm
    subst h9
    clear hww
    by_cases hlt : i < m
    · obtain ⟨L, a, n, c, he, hc, hli, hfn, hbd⟩ := HL.out w (Below.refl _ _) i hlt
      have hFN := Lib.hid hfn
      have hnl := hli.length
      have hiI : (i : Int) < (m : Int) := by omega
      clear he hli hfn
      generalize hS : (Ls.take i).flatten.length = S at *
      have hSS := Lib.hid hS
      clear hS
      go_wp2_with fail
      go_roundw
      case rel => exact ⟨i + 1, by go_num, by omega, by rw [hFN.out, List.length_append, hSS.out, hnl]; go_num, by trivial⟩
      case measure => simp [intOf]; omega
    · obtain rfl : m = i := by omega
      rw [HTm.out]
      have HG := Lib.hid (rgrow_any R.length w (by omega))
      unfold GrowP at HG
      generalize hRL : R.length = RL at *
      have hRLh := Lib.hid hRL
      clear hRL
      go_wp2_with (first
        | (go_at_call 47; ((with_reducible refine HG.out.mono ?_); rintro e9 w1 ⟨v1, rfl, hown1, h1⟩)))
      have HO1 := Lib.hid hown1
      clear hown1
      go_loopw [6, 27] (fun v c wz => ∃ i : Nat, c = .int .i64 (i : Int) ∧ i ≤ m ∧ wz.ownsRow w.heap.size RR.et RR.sz v (Ls.take i).flatten.length (RR.all (Ls.take i).flatten) ∧ Below w.heap.size w wz) (fun _ c _ => m - (intOf c).toNat)
      case atStart => exact ⟨0, rfl, by omega, by rw [HT0.out]; exact HO1.out, h1⟩
      case round =>
        clear HO1 HG
        obtain ⟨i, rfl, hi, hown, hb⟩ := hrel
        by_cases hlt : i < m
        · obtain ⟨L, a, n, c, he, hc, hli, hfn, hbd⟩ := HL.out wr hb i hlt
          have hFN := Lib.hid hfn
          have HLI := Lib.hid hli
          have hiI : (i : Int) < (m : Int) := by omega
          clear he hfn
          have hnl := hli.length
          clear hli
          go_wp2_with (first
            | (at_builtin; refine append_list (F := fun b => b < w.heap.size) rrOk rfl (.tmp 31) (.tmp 32) rfl w.heap.size _ _ _ rfl hown a n c L rfl HLI.out (by omega) hb.size ?_; intro v7 w7 hown7 hgrow7; have b7 := hb.grown hgrow7 hb.size (fun z9 h9 => (hown.lt z9 h9).1)))
          go_roundw
          case rel => exact ⟨i + 1, by go_num, by omega, by rw [hFN.out, List.length_append, hnl]; exact hown7, b7⟩
          case measure => simp [intOf]; omega
        · obtain rfl : m = i := by omega
          rw [HTm.out] at hown
          obtain ⟨a7, c7, rfl, l7⟩ := owns_list rrOk (F := fun b => w.heap.size ≤ b) hown (fun b h9 => (hown.lt b h9).1)
          have HO := Lib.hid l7
          clear hown l7
          have hiI : ¬ (m : Int) < (m : Int) := by omega
          go_wp2_with fail
          go_ret
          exact ⟨a7, _, c7, rfl, HO.out, hb⟩
end Go.Proofs.Ytbfoagfemgogkaa.Ents

/- The program's iterator over retired zones: whatever loop it is given to. -/
namespace Go.Proofs.Ytbfoagfemgogkaa.Ents
open Go.RowKit Plan EntMath CntMath EpoMath Rws
attribute [local go_sem] Oper.semAt_some
/-- a fence in which every function may be called, and every contract holds -/
structure Wide (F : Fence) : Prop where
  fn : ∀ f, F.fn f
  ro : F.round = none
  calls : ∀ {n : Nat} {f : FuncId} {args : Array Value} {w : World} {R : Ending → World → Prop}, Calls Try.prog f args w R → CallsIn F n Try.prog f args w R
theorem wide_wide : Wide Fence.wide := ⟨fun _ => trivial, rfl, fun h => callsIn_wide.2 h⟩
theorem epoIter_in {F : Fence} (hW : Wide F) (n : Nat) (g : Int) (a b : Option Addr) (k c m d : Nat) (w : World) :
    CallsIn F n Try.prog 37 #[epoV g a k c b m d] w fun r w' => r = .returned (.func (.func 46) #[] #[.pointer (some ⟨w.heap.size, 0, none⟩)]) ∧ w' = w.alloc (epoRow g a k c b m d) := by
  refine hW.calls ?_
  go_enter Try.func37, Try.ntmps37
  go_wp2_with fail
  go_ret
  exact ⟨rfl, rfl⟩
set_option maxRecDepth 100000 in
set_option maxHeartbeats 2000000 in
theorem epoIter1_in {F : Fence} (hW : Wide F) (n : Nat) (hn : 1 ≤ n) (l Bn n₀ n₁ : Nat) (Fs : Nat → Prop) (hF : ∀ b, Fs b → b < n₀) (g : Int) (a b : Option Addr) (k c m d : Nat) (Z : List Ret) (J Jx : List (Nat × Ret) → World → Prop)
    (hJ : AbidesFrom n₁ J)
    (hY : ∀ pre x W, J pre W → pre.length < Z.length → YieldAt F (n - 1) Try.prog l #[.int .i64 (x.1 : Int), retV x.2] W fun e W' =>
      (e = .returned (.bool true) ∧ J (pre ++ [x]) W' ∧ Below n₀ W W') ∨ (e = .returned (.bool false) ∧ Jx (pre ++ [x]) W'))
    (W : World) (hn₀ : n₀ ≤ W.heap.size) (hBn : W.heap[Bn]? = some (epoRow g a k c b m d)) (hL : RList W Fs b m d Z) (h0 : J [] W) :
    CallsIn F n Try.prog 46 #[.func (.yield l) #[] #[], .pointer (some ⟨Bn, 0, none⟩)] W fun e W' => (∃ v, e = .returned v) ∧
      ((∃ ys, ys = idx Z ∧ J ys W') ∨ (∃ pre, pre <+: idx Z ∧ Jx pre W')) := by
  have hlen := hL.length
  have hcp := hL.cap
  unfold maxLen at hcp
  have HAT := Lib.hid (fun W' (h : Below n₀ W W') i (hi : i < m) => ret_at (hL.on (w' := W') (⟨h.size, fun b hb hlt => h.block b (hF b hb)⟩ : Same Fs W W')) i hi)
  clear hL
  refine callsIn_of_wp Try.func46 rfl (hW.fn _) ?_ hW.ro
  simp only [Try.ntmps46, List.size_toArray, List.length_cons, List.length_nil, Nat.reduceAdd, Nat.reduceSub, Array.replicate_succ, Array.replicate_zero, List.push_toArray, List.append_toArray, List.nil_append, List.cons_append]
  obtain ⟨c0, c1, c2⟩ := three_row hBn
  have hro := hW.ro
  gi_wp2
  clear c0 c1 c2
  gi_loopw [3, 4, 8] (fun _ _ x wr => ∃ j : Nat, x = .int .i64 (j : Int) ∧ j ≤ m ∧ J ((idx Z).take j) wr ∧ Below n₀ W wr) (fun _ _ x _ => m - (intOf x).toNat)
  case atStart => exact ⟨0, rfl, by omega, h0, Below.refl _ _⟩
  case round =>
    obtain ⟨j, rfl, hj, hJs, hb⟩ := hrel
    by_cases hlt : j < m
    · obtain ⟨x, r, rfl, hz, hat⟩ := HAT.out wr hb j hlt
      have hjI : (j : Int) < (m : Int) := by omega
      have hT := Lib.hid (idx_next hz)
      obtain ⟨d0, d1⟩ := hat
      have hJ' := hJ _ _ _ _ hJs (World.grownBy_alloc wr (retRow r.zone r.epoch) none) (fun r e => by cases e)
      have hb' := hb.alloc (Nat.le_trans hn₀ hb.size) (retRow r.zone r.epoch)
      have hpl : ((idx Z).take j).length < Z.length := by rw [List.length_take, idx_len]; omega
      obtain ⟨fn, tmps, assign, body, hy, hR⟩ := hY _ (j, r) _ hJ' hpl
      dsimp only at hy hR
      clear hz hpl hJ' hJs
      gi_wp2
      refine hR.mono ?_
      rintro e W3 (⟨rfl, hJ3, hk3⟩ | ⟨rfl, hJx3⟩)
      · gi_wp2
        go_roundw
        case rel => exact ⟨j + 1, by go_num, by omega, by rw [hT.out]; exact hJ3, hb'.trans hk3⟩
        case measure => simp [intOf]; omega
      · gi_wp2
        refine bodyPost_ret (results_none rfl _ _ _) rfl ?_
        exact ⟨⟨_, rfl⟩, .inr ⟨_, by rw [← hT.out]; exact List.take_prefix _ _, hJx3⟩⟩
    · obtain rfl : j = m := by omega
      have hjI : ¬ (j : Int) < (j : Int) := by omega
      gi_wp2
      go_end0
      exact ⟨⟨_, rfl⟩, .inl (by rw [List.take_of_length_le (by rw [idx_len]; omega)] at hJs; exact hJs)⟩
/-- what the iterator's value gives to a loop -/
theorem epoIter_stops {F : Fence} (hW : Wide F) (n : Nat) (hn : 1 ≤ n) (Bn n₀ : Nat) (Fs : Nat → Prop) (hF : ∀ b, Fs b → b < n₀) (g : Int) (a b : Option Addr) (k c m d : Nat) (Z : List Ret) (w : World) (hn₀ : n₀ ≤ w.heap.size)
    (hBn : w.heap[Bn]? = some (epoRow g a k c b m d)) (hL : RList w Fs b m d Z) :
    SeqStopsK F n Try.prog 46 #[.pointer (some ⟨Bn, 0, none⟩)] (fun x : Nat × Ret => #[Value.int .i64 (x.1 : Int), retV x.2]) (Below n₀) (fun ys => ys = idx Z) (fun pre => pre <+: idx Z) Z.length w := fun l J Jx W hWB hJ _ hY h0 =>
  epoIter1_in hW n hn l Bn n₀ _ Fs hF g a b k c m d Z J Jx hJ hY W (Nat.le_trans hn₀ hWB.size) ((hWB.block Bn (e_lt hBn)).trans hBn) (hL.on (Same.below hWB)) h0
end Go.Proofs.Ytbfoagfemgogkaa.Ents
