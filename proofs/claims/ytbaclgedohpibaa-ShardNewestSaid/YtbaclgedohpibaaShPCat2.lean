
/- The walks of the library's Grow from nil and of its Concat, at entries. -/
import Derived.Test.YtbaclgedohpibaaShPCat
import Derived.Lib.AppendZerosOnto
import Derived.Lib.AppendZeros
namespace Go.Proofs.Ytbaclgedohpibaa.Ents
open Go.RowKit Plan EntMath
abbrev zV : Value := .agg #[.int .i64 0, .int .i64 0, .int .i64 0, .int .i64 0, .int .i64 0, .int .i64 0]
set_option maxHeartbeats 1000000 in
theorem grow_any (n : Nat) (w : World) (h0 : 0 < n) (hm : n ≤ 1000000) :
    Calls Try.prog 37 #[.slice none 0 0, .int .i64 n] w fun r w' => ∃ g c, r = .returned (.slice (some ⟨g, 0, none⟩) 0 c) ∧ w'.ownsRow w.heap.size 26 6 (.slice (some ⟨g, 0, none⟩) 0 c) 0 (ents []) ∧ Below w.heap.size w w' := by
  obtain ⟨i1, hi1, hy0, hy1, hy2⟩ := info_parts e_info
  have hrz : ∀ ty, (Builtin.append_ #[22, 3] ty #[.slice none 0 0, .int .i64 (n : Int)]).run Try.prog w = .ok (.slice (some ⟨w.heap.size, 0, none⟩) (0 + n) (grownCap w (0 + n) 0 26)) (w.drew.alloc (.cells (#[] ++ Builtin.zeroCells zV.cells n ++ Builtin.zeroCells zV.cells (grownCap w (0 + n) 0 26 - (0 + n))) 26)) := fun ty =>
    Lib.run_append_grow_zeros w 22 3 ty 26 i1 zV .i64 .i64 Try.underlying22 Try.underlying3 hi1 hy0 none 0 0 [] (run_firstCells_none _ _ _ _ _) n h0 (by omega) (by omega) (by omega) (by rw [hy2]; omega) (growslice_fits (by omega) (by rw [hy2]; omega))
  have hge := grownCap_ge w (0 + n) 0 26
  have hle := grownCap_le_maxLen w (0 + n) 0 26 (by unfold maxLen; omega)
  generalize grownCap w (0 + n) 0 26 = C at *
  have hsz : (#[] ++ Builtin.zeroCells zV.cells n ++ Builtin.zeroCells zV.cells (C - (0 + n))).size = C * 6 := by
    have hz : zV.cells.size = 6 := rfl
    rw [Array.size_append, Array.size_append, size_zeroCells, size_zeroCells, hz]
    simp
    omega
  generalize (#[] ++ Builtin.zeroCells zV.cells n ++ Builtin.zeroCells zV.cells (C - (0 + n))) = Z at *
  have hb : Below w.heap.size w (w.drew.alloc (.cells Z 26)) := (Below.refl w.heap.size w).drew.alloc (Nat.le_refl _) _
  have hown : (w.drew.alloc (.cells Z 26)).ownsRow w.heap.size 26 6 (.slice (some ⟨w.heap.size, 0, none⟩) 0 C) 0 (ents []) :=
    ⟨rfl, .inr ⟨w.heap.size, C, Z, rfl, Nat.le_refl _, heap_alloc_new w.drew (.cells Z 26), Nat.zero_le _, hle, hsz, by simp [ents]⟩⟩
  rw [Nat.zero_add] at hrz hge
  generalize hW : w.drew.alloc (.cells Z 26) = W at *
  unfold maxLen at hle
  have hnI : (0 : Int) < (n : Int) := by omega
  have HO := Lib.hid hown
  clear hsz hown hW
  go_enter Try.func37, Try.ntmps37
  go_wp2_with (at_builtin; refine Lib.wpList_append_run _ rfl _ _ _ _ rfl _ _ rfl rfl _ _ (hrz _) ?_)
  go_ret
  exact ⟨_, _, rfl, HO.out, hb⟩
/-- lists of entries, one beside the other -/
structure ListsAt (w : World) (F : Nat → Prop) (x : Addr) (Ls : List (List Ent)) : Prop where
  at' : ∀ i L, Ls[i]? = some L → ∃ a n c, w.cell? (x.add i) = some (.slice a n c) ∧ EList w F a n c L
theorem ListsAt.low {w : World} {F : Nat → Prop} {x : Addr} {Ls : List (List Ent)} (h : ListsAt w F x Ls) : ListsAt w (fun b => b < w.heap.size) x Ls :=
  ⟨fun i L hi => by obtain ⟨a, n, c, h1, h2⟩ := h.at' i L hi; exact ⟨a, n, c, h1, h2.low⟩⟩
theorem ListsAt.keep {w w' : World} {x : Addr} {Ls : List (List Ent)} (h : ListsAt w (fun b => b < w.heap.size) x Ls) (hb : Below w.heap.size w w') : ListsAt w' (fun b => b < w.heap.size) x Ls :=
  ⟨fun i L hi => by
    obtain ⟨a, n, c, h1, h2⟩ := h.at' i L hi
    exact ⟨a, n, c, (hb.cell (World.block_lt_of_cell? w _ h1)).trans h1, h2.on (Same.low hb)⟩⟩
theorem flat_next {Ls : List (List Ent)} {i : Nat} {L : List Ent} (h : Ls[i]? = some L) : (Ls.take (i + 1)).flatten = (Ls.take i).flatten ++ L := by
  rw [List.take_add_one, h, List.flatten_append]
  simp
theorem flat_le (Ls : List (List Ent)) (i : Nat) : ((Ls.take i).flatten).length ≤ Ls.flatten.length := by
  have := congrArg (fun l => (List.flatten l).length) (List.take_append_drop i Ls)
  simp only [List.flatten_append, List.length_append] at this
  omega
set_option maxHeartbeats 2000000 in
set_option maxRecDepth 20000 in
theorem concat_any (F : Nat → Prop) (Ls : List (List Ent)) (x : Addr) (m cap : Nat) (w : World) (hl : ListsAt w F x Ls) (hlen : Ls.length = m) (hmm : m ≤ 1000) (h0 : 0 < Ls.flatten.length) (hm : Ls.flatten.length ≤ 900000) :
    Calls Try.prog 32 #[.slice (some x) m cap] w (OwnPost w w.heap.size Ls.flatten) := by
  have HL := Lib.hid (fun W (h : Below w.heap.size w W) i (hi : i < m) => (show ∃ L a n c, Ls[i]? = some L ∧ W.cell? (x.add i) = some (.slice a n c) ∧ EList W (fun b => b < w.heap.size) a n c L ∧ (Ls.take (i + 1)).flatten = (Ls.take i).flatten ++ L ∧ ((Ls.take i).flatten).length + n ≤ 900000 from by
    have hi2 : Ls[i]? = some (Ls[i]'(by omega)) := List.getElem?_eq_getElem _
    obtain ⟨a, n, c, h1, h2⟩ := (ListsAt.keep hl.low h).at' i _ hi2
    have h3 := flat_next hi2
    have h4 := flat_le Ls (i + 1)
    rw [h3, List.length_append, h2.length] at h4
    exact ⟨_, a, n, c, hi2, h1, h2, h3, by omega⟩))
  have HT0 : RowKit.Hid ((Ls.take 0).flatten = []) := Lib.hid (by simp)
  have HTm : RowKit.Hid ((Ls.take m).flatten = Ls.flatten) := Lib.hid (by rw [List.take_of_length_le (by omega)])
  unfold OwnPost
  generalize Ls.flatten = R at *
  clear hl hlen
  go_enter Try.func32, Try.ntmps32
  go_wp2_with fail
  go_loopw [3, 11] (fun s c wr => ∃ i : Nat, c = .int .i64 (i : Int) ∧ i ≤ m ∧ s = .int .i64 (((Ls.take i).flatten.length : Nat) : Int) ∧ wr = w) (fun _ c _ => m - (intOf c).toNat)
  case atStart => exact ⟨0, rfl, by omega, by rw [HT0.out]; rfl, rfl⟩
  case round =>
    obtain ⟨i, rfl, hi, rfl, hww⟩ := hrel
    have h9 : w = wr := hww.symm
    subst h9
    clear hww
    by_cases hlt : i < m
    · obtain ⟨L, a, n, c, he, hc, hli, hfn, hbd⟩ := HL.out w (Below.refl _ _) i hlt
      have hFN := Lib.hid hfn
      have hnl := hli.length
      have hiI : (i : Int) < (m : Int) := by omega
      clear he hli hfn
      generalize hS : (Ls.take i).flatten.length = S at *
      have hSS := Lib.hid hS
      clear hS
      go_wp2_with fail
      go_roundw
      case rel => exact ⟨i + 1, by go_num, by omega, by rw [hFN.out, List.length_append, hSS.out, hnl]; go_num, by trivial⟩
      case measure => simp [intOf]; omega
    · obtain rfl : m = i := by omega
      rw [HTm.out]
      have HG := Lib.hid (grow_any R.length w h0 (by omega))
      generalize hRL : R.length = RL at *
      have hRLh := Lib.hid hRL
      clear hRL
      go_wp2_with (first
        | (go_at_call 37; ((with_reducible refine HG.out.mono ?_); rintro e9 w1 ⟨g1, c1, rfl, hown1, h1⟩)))
      have HO1 := Lib.hid hown1
      clear hown1
      go_loopw [6, 27] (fun v c wz => ∃ i : Nat, c = .int .i64 (i : Int) ∧ i ≤ m ∧ wz.ownsRow w.heap.size 26 6 v (Ls.take i).flatten.length (ents (Ls.take i).flatten) ∧ Below w.heap.size w wz) (fun _ c _ => m - (intOf c).toNat)
      case atStart => exact ⟨0, rfl, by omega, by rw [HT0.out]; exact HO1.out, h1⟩
      case round =>
        clear HO1 HG
        obtain ⟨i, rfl, hi, hown, hb⟩ := hrel
        by_cases hlt : i < m
        · obtain ⟨L, a, n, c, he, hc, hli, hfn, hbd⟩ := HL.out wr hb i hlt
          have hFN := Lib.hid hfn
          have HLI := Lib.hid hli
          have hiI : (i : Int) < (m : Int) := by omega
          clear he hfn
          have hnl := hli.length
          clear hli
          go_wp2_with (first
            | (at_builtin; refine append_ents (F := fun b => b < w.heap.size) rfl (.tmp 31) (.tmp 32) rfl w.heap.size _ _ _ rfl hown a n c L rfl HLI.out (by omega) hb.size ?_; intro v7 w7 hown7 hgrow7; have b7 := hb.grown hgrow7 hb.size (fun z9 h9 => (hown.lt z9 h9).1)))
          go_roundw
          case rel => exact ⟨i + 1, by go_num, by omega, by rw [hFN.out, List.length_append, hnl]; exact hown7, b7⟩
          case measure => simp [intOf]; omega
        · obtain rfl : m = i := by omega
          rw [HTm.out] at hown
          obtain ⟨g7, c7, rfl, hg7, hs7⟩ := own_some hown (by rw [hRLh.out]; omega)
          have HO := Lib.hid hown
          clear hown
          go_wp2_with fail
          go_ret
          exact ⟨g7, c7, rfl, hg7, HO.out, hb⟩
end Go.Proofs.Ytbaclgedohpibaa.Ents
