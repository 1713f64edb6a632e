
/- The walks of the program's Held and New of locks: the program's locks do what the contracts of the document's own say. -/
import Derived.Test.YtoclcefnecghfaaLckPPass
namespace Go.Proofs.Ytoclcefnecghfaa.Ents
open Go.RowKit Plan EntMath CntMath LckMath
set_option maxHeartbeats 4000000 in
set_option maxRecDepth 20000 in
theorem lckHeld_any (F : Nat → Prop) (O : List Int) (t : Int) (a : Option Addr) (n c : Nat) (w : World) (hl : IList w F a n c O) (hn : n ≤ 900000) :
    Calls Try.prog 15 #[lckV a n c, .int .i64 t] w (HeldPost w (heldL O t)) := by
  have hlen := hl.length
  have hA := (Below.refl w.heap.size w).alloc (Nat.le_refl _) (lckRow a n c)
  have hr0 := heap_alloc_new w (lckRow a n c)
  have H1 := Lib.hid (fun W (h : Below w.heap.size w W) i (hi : i < n) => (hl.same h).at' i hi)
  have HT := Lib.hid (fun W => lckThread_any t W)
  have hcp := hl.cap
  unfold maxLen at hcp
  clear hl
  by_cases ht : 0 ≤ t
  · have hres : heldL O t = heldTo O t n := by unfold heldL; rw [if_pos ht, hlen]
    rw [hres]
    rw [decide_eq_true ht] at HT
    have hend : ∀ W v m, W.ownsRow w.heap.size 3 1 v m (intC (heldTo O t n)) → ∃ a c, v = .slice a m c ∧ IList W (fun b => w.heap.size ≤ b) a m c (heldTo O t n) := fun W v m h => own_ilist h (fun b hb => (h.lt b hb).1)
    have HEND := Lib.hid hend
    have HNX := Lib.hid (fun i z (h : O[i]? = some z) => held_next (t := t) h)
    have HB := Lib.hid (held_len O t)
    clear hres hend
    go_enter Try.func15, Try.ntmps15
    have c0 := one_row hr0
    generalize hw0 : w.alloc (lckRow a n c) = w0 at *
    go_wp2_with (first
      | (go_at_call 24; ((with_reducible refine (HT.out _).mono ?_); rintro r9 w9 ⟨rfl, rfl⟩)))
    go_loopw [5, 6, 13] (fun v _ x wr => ∃ j : Nat, x = .int .i64 (j : Int) ∧ j ≤ n ∧ wr.ownsRow w.heap.size 3 1 v (heldTo O t j).length (intC (heldTo O t j)) ∧ wr.heap[w.heap.size]? = some (lckRow a n c) ∧ Below w.heap.size w wr ∧ ∀ b, v.ownBlock = some b → b ≠ w.heap.size) (fun _ _ x _ => n - (intOf x).toNat)
    case atStart => exact ⟨0, rfl, by omega, World.ownsRow_nil _ _ _ _, hr0, hA, fun b hb => absurd hb (by simp [Value.ownBlock])⟩
    case round =>
      clear c0 hr0 hA
      obtain ⟨j, rfl, hj, hv, hr, hb, hne⟩ := hrel
      have c0 := one_row hr
      by_cases hlt : j < n
      · obtain ⟨x, z, rfl, hz, hc⟩ := H1.out wr hb j hlt
        have hjI : (j : Int) < (n : Int) := by omega
        have N1 := HNX.out j z hz
        have hbj := HB.out j
        generalize heldTo O t j = Z at *
        clear hz
        by_cases hq : z = t
        · have q1 : (z == t) = true := by simpa using hq
          rw [if_pos hq] at N1
          have HN1 := Lib.hid N1
          subst hq
          have q2 := hb.alloc hb.size (.cells #[.int .i64 (j : Int)] 3 (0, 0))
          have hv1 := e_owns_on hv ((Below.refl _ _).alloc (Nat.le_refl _) (.cells #[.int .i64 (j : Int)] 3 (0, 0)))
          have hr1 := e_al hr (.cells #[.int .i64 (j : Int)] 3 (0, 0))
          clear N1
          go_wp2_with (first
            | (at_builtin; refine append_int rfl (.tmp 23) (.tmp 25) rfl w.heap.size _ _ Z rfl hv1 wr.heap.size (j : Int) rfl (heap_alloc_new wr (.cells #[.int .i64 (j : Int)] 3 (0, 0))) (by omega) q2.size ?_; intro g9 k9 w9 hown9 hgrow9 hat9))
          have b9 := q2.grown hgrow9 q2.size (fun z9 h9 => (hv.lt z9 h9).1)
          have r9 := (hgrow9.block w.heap.size (e_lt hr1) (fun h9 => hne _ h9.symm rfl)).trans hr1
          have hlr := e_lt hr1
          go_roundw
          case rel => exact ⟨j + 1, by go_num, by omega, by rw [HN1.out, List.length_append]; exact hown9, r9, b9, fun b hb9 => by
            have h8 : g9 = b := Option.some.inj (show some g9 = some b from hb9)
            subst h8
            rcases hat9 with h7 | h7
            · exact hne _ h7
            · omega⟩
          case measure => simp [intOf]; omega
        · have q1 : (z == t) = false := by simpa using hq
          rw [if_neg hq, List.append_nil] at N1
          have HN1 := Lib.hid N1
          clear N1
          go_wp2_with fail
          go_roundw
          case rel => exact ⟨j + 1, by go_num, by omega, by rw [HN1.out]; exact hv, hr, hb, hne⟩
          case measure => simp [intOf]; omega
      · obtain rfl : j = n := by omega
        obtain ⟨a9, c9, rfl, l9⟩ := HEND.out _ _ _ hv
        generalize (heldTo O t j).length = m9 at *
        have hrI : ¬ (j : Int) < (j : Int) := by omega
        go_wp2_with fail
        go_ret
        exact ⟨_, _, _, rfl, l9, hb⟩
  · have hres : heldL O t = [] := by unfold heldL; rw [if_neg ht]
    rw [hres]
    rw [decide_eq_false ht] at HT
    clear hres hlen H1
    go_enter Try.func15, Try.ntmps15
    generalize hw0 : w.alloc (lckRow a n c) = w0 at *
    go_wp2_with (first
      | (go_at_call 24; ((with_reducible refine (HT.out _).mono ?_); rintro r9 w9 ⟨rfl, rfl⟩)))
    go_ret
    exact ⟨_, _, _, rfl, IList.nil _ _, hA⟩
set_option maxHeartbeats 4000000 in
set_option maxRecDepth 20000 in
theorem lckNew_any (s : Int) (w : World) : Calls Try.prog 8 #[.int .i64 s] w (LNewPost w (newK s) (newKE s)) := by
  have hA := (Below.refl w.heap.size w).alloc (Nat.le_refl _) (lckRow none 0 0)
  have hr0 := heap_alloc_new w (lckRow none 0 0)
  have HP := Lib.hid (fun W => lckPossible_any s W)
  by_cases hs : 1 ≤ s ∧ s ≤ 8
  · obtain ⟨n, rfl⟩ : ∃ n : Nat, s = (n : Int) := ⟨s.toNat, by omega⟩
    have h1 : newK (n : Int) = List.replicate n (-1) := by unfold newK; rw [if_pos hs, Int.toNat_natCast]
    have h2 : newKE (n : Int) = 0 := if_pos hs
    rw [h1, h2]
    rw [decide_eq_true hs] at HP
    have hx1 := heap_alloc_new (w.alloc (lckRow none 0 0)) (.cells #[.int .i64 (-1)] 3)
    have hr1 := e_al hr0 (.cells #[.int .i64 (-1)] 3)
    have hB := hA.alloc hA.size (.cells #[.int .i64 (-1)] 3)
    have HR := Lib.hid (repeat_any (-1) _ n _ _ hx1 (by omega) (by omega))
    have hnm : n ≤ maxLen := by unfold maxLen; omega
    have hs1 : (w.alloc (lckRow none 0 0)).heap.size = w.heap.size + 1 := by simp
    rw [hs1] at HR
    clear h1 h2 hs hx1 hr0 hA hs1
    go_enter Try.func8, Try.ntmps8
    go_wp2_with (first
      | (go_at_call 21; ((with_reducible refine (HP.out _).mono ?_); rintro r9 w9 ⟨rfl, rfl⟩))
      | (go_at_call 22; ((with_reducible refine (HR.out).mono ?_); rintro r9 w2 ⟨g, rfl, hg, hG, h2⟩; have b2 := hB.trans (h2.mono hB.size); have hr2 := e_on h2 hr1 (e_lt hr1); have hgg : w.heap.size + 1 < g := (by simp only [World.size_alloc] at hg; omega); clear hg HR hr1))
      | ((with_reducible refine Plan.store_lit 24 (.tmp 2) _ (w.heap.size) ?_ hr2 ?_ ?_ ?_ ?_ ?_ ?_); rotate_left; (· rfl); (· rfl); (· exact lck_info); (· rfl); (· simp [Value.oneCell']); simp only [Act.put]))
    have g3 := (setRow_other w2 w.heap.size g #[.slice (some ⟨g, 0, none⟩) n n] (by omega)).trans hG
    exact bodyPost_ret (Plan.results_cell_tmp (p := 2) (q := 3) rfl _ _ _ _ _ _ _ rfl (setRow_heap _ _ _ _ _ _ hr2) Try.underlying24 rfl lck_info) rfl ⟨_, _, _, rfl, row_ilist g3 (by simp) hnm (by omega), below_setRow b2 (Nat.le_refl _) _⟩
  · have h1 : newK s = [] := if_neg hs
    have h2 : newKE s = 1 := if_neg hs
    rw [h1, h2]
    rw [decide_eq_false hs] at HP
    clear h1 h2
    go_enter Try.func8, Try.ntmps8
    go_wp2_with (first
      | (go_at_call 21; ((with_reducible refine (HP.out _).mono ?_); rintro r9 w9 ⟨rfl, rfl⟩))
      | ((with_reducible refine Plan.store_lit 24 (.tmp 2) _ (w.heap.size) ?_ hr0 ?_ ?_ ?_ ?_ ?_ ?_); rotate_left; (· rfl); (· rfl); (· exact lck_info); (· rfl); (· simp [Value.oneCell']); simp only [Act.put]))
    exact bodyPost_ret (Plan.results_cell_tmp (p := 2) (q := 3) rfl _ _ _ _ _ _ _ rfl (setRow_heap _ _ _ _ _ _ hr0) Try.underlying24 rfl lck_info) rfl ⟨_, _, _, rfl, IList.nil _ _, below_setRow hA (Nat.le_refl _) _⟩
theorem locksOk : LocksOk := ⟨lckNew_any, fun F O a n c w hl _ => lckValid_any F O a n c w hl, fun F O s a n c w hl _ => lckFree_any F O s a n c w hl, fun F O s t a n c w _ hl _ => lckTake_any F O s t a n c w hl, fun F O s t a n c w _ hl _ => lckGive_any F O s t a n c w hl, fun F O t a n c w hl hn => lckHeld_any F O t a n c w hl (by omega)⟩
end Go.Proofs.Ytoclcefnecghfaa.Ents
