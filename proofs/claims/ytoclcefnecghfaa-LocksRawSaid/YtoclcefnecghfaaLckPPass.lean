
/- The walks of the program's pass, Take, Give of locks. -/
import Derived.Test.YtoclcefnecghfaaLckPVal
import Derived.Test.YtoclcefnecghfaaLivePend2
namespace Go.Proofs.Ytoclcefnecghfaa.Ents
open Go.RowKit Plan EntMath CntMath LckMath
def passL (O : List Int) (s v t : Int) : List Int := if ownK O s v = true then O.set s.toNat t else O
theorem pass_ilist {w : World} {g n k W1 : Nat} {Z : List Int} {F : Nat → Prop} (ho : w.ownsRow W1 3 1 (.slice (some ⟨g, 0, none⟩) n k) n (intC Z)) (hF : F g) : IList w F (some ⟨g, 0, none⟩) n k Z := by
  obtain ⟨a9, c9, e9, l9⟩ := own_ilist (F := F) ho (fun b h9 => by have h8 := Option.some.inj (show some g = some b from h9); subst h8; exact hF)
  cases e9
  exact l9
set_option maxHeartbeats 4000000 in
set_option maxRecDepth 20000 in
theorem lckPass_any (F : Nat → Prop) (O : List Int) (s v t : Int) (a : Option Addr) (n c : Nat) (w : World) (hl : IList w F a n c O) :
    Calls Try.prog 25 #[lckV a n c, .int .i64 s, .int .i64 v, .int .i64 t] w (LckPost w F (passL O s v t) (ownK O s v)) := by
  have hlen := hl.length
  have hA := ((Below.refl w.heap.size w).alloc (Nat.le_refl _) (lckRow a n c)).alloc (by simp) (lckRow none 0 0)
  have hx0 := heap_first w (lckRow a n c) (lckRow none 0 0)
  have hr0 := heap_second w (lckRow a n c) (lckRow none 0 0)
  have HEND := Lib.hid (fun W (h : Below w.heap.size w W) (cs : Array Value) => (show IList (W.setRow (w.heap.size + 1) cs) (Plus F w.heap.size) a n c O from
    ((hl.cut.on (Same.below (w' := W) h)).on (Same.row (r := w.heap.size + 1) (fun h9 => by have := h9.2; omega) cs)).mono (fun b _ h => .inl h.1)))
  have HO := Lib.hid (lckOwner_any _ O s v a n c _ (hl.same hA))
  cases hfr : ownK O s v
  · have h2 : passL O s v t = O := by unfold passL; rw [if_neg (by rw [hfr]; decide)]
    rw [h2]
    rw [hfr] at HO
    clear hl hfr h2
    go_enter Try.func25, Try.ntmps25
    generalize hw0 : (w.alloc (lckRow a n c)).alloc (lckRow none 0 0) = w0 at *
    go_wp2_with (first
      | ((with_reducible refine Plan.load_lit 24 (.tmp 4) (w.heap.size) ?_ hx0 Try.underlying24 ?_ ?_ ?_); (· rfl); (· rfl); (· exact lck_info); simp only [Act.put, List.setIfInBounds_toArray, List.set_cons_zero, List.set_cons_succ])
      | (go_at_call 26; ((with_reducible refine (HO.out).mono ?_); rintro r9 w1 ⟨rfl, h1⟩; have b1 := hA.trans (h1.mono hA.size); have hx1 := e_on h1 hx0 (e_lt hx0); have hr1 := e_on h1 hr0 (e_lt hr0); clear hx0 hr0))
      | ((with_reducible refine Plan.load_lit 24 (.tmp 4) (w.heap.size) ?_ hx1 Try.underlying24 ?_ ?_ ?_); (· rfl); (· rfl); (· exact lck_info); simp only [Act.put, List.setIfInBounds_toArray, List.set_cons_zero, List.set_cons_succ])
      | ((with_reducible refine Plan.store_lit 24 (.tmp 8) _ (w.heap.size + 1) ?_ hr1 ?_ ?_ ?_ ?_ ?_ ?_); rotate_left; (· rfl); (· rfl); (· exact lck_info); (· rfl); (· simp [Value.oneCell']); simp only [Act.put]))
    exact bodyPost_ret (Plan.results_cell_tmp (p := 8) (q := 9) rfl _ _ _ _ _ _ _ rfl (setRow_heap _ _ _ _ _ _ hr1) Try.underlying24 rfl lck_info) rfl ⟨_, _, _, rfl, HEND.out _ b1 _, below_setRow b1 (show w.heap.size ≤ w.heap.size + 1 by omega) _⟩
  · have hin : inK O s = true := by unfold ownK at hfr; rw [Bool.and_eq_true] at hfr; exact hfr.1
    obtain ⟨k, rfl, hk, hn8, x, z, rfl, hz, hc⟩ := lck_at hl hin
    have h2 : passL O (k : Int) v t = O.set k t := by unfold passL; rw [if_pos hfr, Int.toNat_natCast]
    rw [h2]
    rw [hfr] at HO
    have hkI : (k : Int) < (n : Int) := by omega
    have HCL := Lib.hid (fun W (h : Below w.heap.size w W) => iclone_any _ O x n c W (hl.same h) (by omega) (by omega))
    have HZ := Lib.hid hz
    clear hl hfr h2 hin hz hc
    go_enter Try.func25, Try.ntmps25
    generalize hw0 : (w.alloc (lckRow (some x) n c)).alloc (lckRow none 0 0) = w0 at *
    go_wp2_with (first
      | ((with_reducible refine Plan.load_lit 24 (.tmp 4) (w.heap.size) ?_ hx0 Try.underlying24 ?_ ?_ ?_); (· rfl); (· rfl); (· exact lck_info); simp only [Act.put, List.setIfInBounds_toArray, List.set_cons_zero, List.set_cons_succ])
      | (go_at_call 26; ((with_reducible refine (HO.out).mono ?_); rintro r9 w1 ⟨rfl, h1⟩; have b1 := hA.trans (h1.mono hA.size); have hx1 := e_on h1 hx0 (e_lt hx0); have hr1 := e_on h1 hr0 (e_lt hr0); have d2 := one_row (e_al hx1 (lckRow (some x) n c)); clear hx0 hr0 hA HO hw0))
      | ((with_reducible refine Plan.load_lit 24 (.tmp 4) (w.heap.size) ?_ hx1 Try.underlying24 ?_ ?_ ?_); (· rfl); (· rfl); (· exact lck_info); simp only [Act.put, List.setIfInBounds_toArray, List.set_cons_zero, List.set_cons_succ])
      | (go_at_call 28; ((with_reducible refine (HCL.out _ (b1.alloc b1.size (lckRow (some x) n c))).mono ?_); rintro r9 w3 ⟨g, k3, rfl, hg, hgl, own, h3⟩; have b3 := (b1.alloc b1.size (lckRow (some x) n c)).trans (h3.mono (b1.alloc b1.size _).size); have hX3 := e_on h3 (heap_alloc_new w1 (lckRow (some x) n c)) (by simp); have hr3 := e_on h3 (e_al hr1 _) (e_lt (e_al hr1 _)); have hz2 := e_lt hr1; have hgX : w1.heap.size < g := (by rw [World.size_alloc] at hg; omega); have q1 := b1.size; clear d2 hx1 hr1 h3 b1 HCL hg; generalize w1.heap.size = X at *))
      | ((with_reducible refine store_slice_c 22 (.tmp 21) (.tmp 20) X 0 (some ⟨g, 0, none⟩) n k3 ?_ ?_ ⟨_, one_row hX3⟩ (free_row_c hX3) ints_info1 ?_); (· rfl); (· rfl); simp only [Act.put]; rw [setCell_eq_setRow _ _ _ _ _ _ _ hX3]; simp only [List.setIfInBounds_toArray, List.set_cons_zero]; have hr4 := (setRow_other w3 X (w.heap.size + 1) #[.slice (some ⟨g, 0, none⟩) n k3] (by omega)).trans hr3; have b4 := below_setRow b3 (show w.heap.size ≤ X by omega) #[.slice (some ⟨g, 0, none⟩) n k3]; have hX4 := setRow_heap w3 X _ #[.slice (some ⟨g, 0, none⟩) n k3] _ _ hX3; have own4 := Own.row own #[.slice (some ⟨g, 0, none⟩) n k3] (show X ≠ g by omega); have e0 := one_row hX4; have hC4 := int_own_cell own4 HZ.out; obtain ⟨f0, f1⟩ := hC4; clear hr3 b3 hX3 own; generalize w3.setRow X #[.slice (some ⟨g, 0, none⟩) n k3] = w4 at *; have own5 := e_owns_cell own4 k (.int .i64 t); have hr5 := (Below.heap_setCell w4 ⟨g, k, none⟩ (.int .i64 t) (w.heap.size + 1) (by simp; omega)).trans hr4; have hX5 := (Below.heap_setCell w4 ⟨g, k, none⟩ (.int .i64 t) X (by simp; omega)).trans hX4; have b5 := b4.setCell (show w.heap.size ≤ (⟨g, k, none⟩ : Addr).block from (by simp; omega)) (.int .i64 t); rw [intC_set] at own5)
      | ((with_reducible refine Plan.load_lit 24 (.tmp 10) (X) ?_ hX5 Try.underlying24 ?_ ?_ ?_); (· rfl); (· rfl); (· exact lck_info); simp only [Act.put, List.setIfInBounds_toArray, List.set_cons_zero, List.set_cons_succ])
      | ((with_reducible refine Plan.store_lit 24 (.tmp 8) _ (w.heap.size + 1) ?_ hr5 ?_ ?_ ?_ ?_ ?_ ?_); rotate_left; (· rfl); (· rfl); (· exact lck_info); (· rfl); (· simp [Value.oneCell']); simp only [Act.put]))
    have D5 := pass_ilist (F := Plus F w.heap.size) (Own.row own5 #[.slice (some ⟨g, 0, none⟩) n k3] (show w.heap.size + 1 ≠ g by omega)) (.inr (by omega))
    exact bodyPost_ret (Plan.results_cell_tmp (p := 8) (q := 9) rfl _ _ _ _ _ _ _ rfl (setRow_heap _ _ _ _ _ _ hr5) Try.underlying24 rfl lck_info) rfl ⟨_, _, _, rfl, D5, below_setRow b5 (show w.heap.size ≤ w.heap.size + 1 by omega) _⟩
set_option maxHeartbeats 4000000 in
set_option maxRecDepth 20000 in
theorem lckTake_any (F : Nat → Prop) (O : List Int) (s t : Int) (a : Option Addr) (n c : Nat) (w : World) (hl : IList w F a n c O) :
    Calls Try.prog 13 #[lckV a n c, .int .i64 s, .int .i64 t] w (LckPost w F (takeL O s t) (takeB O s t)) := by
  have hA := ((Below.refl w.heap.size w).alloc (Nat.le_refl _) (lckRow a n c)).alloc (by simp) (lckRow none 0 0)
  have hx0 := heap_first w (lckRow a n c) (lckRow none 0 0)
  have hr0 := heap_second w (lckRow a n c) (lckRow none 0 0)
  have HT := Lib.hid (fun W => lckThread_any t W)
  by_cases ht : 0 ≤ t
  · have h1 : takeB O s t = ownK O s (-1) := by unfold takeB; rw [decide_eq_true ht, Bool.and_true]; rfl
    have h2 : takeL O s t = passL O s (-1) (t) := by unfold takeL passL; rw [h1]
    rw [h1, h2]
    rw [decide_eq_true ht] at HT
    have HP := Lib.hid (lckPass_any _ O s (-1) (t) a n c _ (hl.cut.on (Same.below hA)))
    generalize ownK O s (-1) = B at *
    generalize passL O s (-1) (t) = L at *
    unfold LckPost at HP
    clear hl h1 h2
    go_enter Try.func13, Try.ntmps13
    have hs0 : ((w.alloc (lckRow a n c)).alloc (lckRow none 0 0)).heap.size = w.heap.size + 1 + 1 := by simp
    generalize hw0 : (w.alloc (lckRow a n c)).alloc (lckRow none 0 0) = w0 at *
    go_wp2_with (first
      | (go_at_call 24; ((with_reducible refine (HT.out _).mono ?_); rintro r9 w9 ⟨rfl, rfl⟩))
      | ((with_reducible refine Plan.load_lit 24 (.tmp 3) (w.heap.size) ?_ hx0 Try.underlying24 ?_ ?_ ?_); (· rfl); (· rfl); (· exact lck_info); simp only [Act.put, List.setIfInBounds_toArray, List.set_cons_zero, List.set_cons_succ])
      | (go_at_call 25; ((with_reducible refine (HP.out).mono ?_); rintro r9 w1 ⟨a1, n1, c1, rfl, l1, h1⟩; have b1 := hA.trans (h1.mono hA.size); have hr1 := e_on h1 hr0 (e_lt hr0); clear HP hr0))
      | ((with_reducible refine Plan.store_lit 24 (.tmp 6) _ (w.heap.size + 1) ?_ hr1 ?_ ?_ ?_ ?_ ?_ ?_); rotate_left; (· rfl); (· rfl); (· exact lck_info); (· rfl); (· simp [Value.oneCell']); simp only [Act.put]))
    have D1 := (l1.on (Same.row (r := w.heap.size + 1) (fun h => by rcases h with h | h; (· have := h.2; omega); (· rw [hs0] at h; omega)) #[.slice a1 n1 c1])).mono (G := Plus F w.heap.size) (fun b _ h => by rcases h with h | h; (· exact .inl h.1); (· exact .inr (by rw [hs0] at h; omega)))
    exact bodyPost_ret (Plan.results_cell_tmp (p := 6) (q := 7) rfl _ _ _ _ _ _ _ rfl (setRow_heap _ _ _ _ _ _ hr1) Try.underlying24 rfl lck_info) rfl ⟨_, _, _, rfl, D1, below_setRow b1 (show w.heap.size ≤ w.heap.size + 1 by omega) _⟩
  · have h1 : takeB O s t = false := by unfold takeB; rw [decide_eq_false ht]; simp
    have h2 : takeL O s t = O := by unfold takeL; rw [if_neg (by rw [h1]; decide)]
    rw [h1, h2]
    rw [decide_eq_false ht] at HT
    have HEND := Lib.hid (fun W (h : Below w.heap.size w W) (cs : Array Value) => (show IList (W.setRow (w.heap.size + 1) cs) (Plus F w.heap.size) a n c O from
      ((hl.cut.on (Same.below (w' := W) h)).on (Same.row (r := w.heap.size + 1) (fun h9 => by have := h9.2; omega) cs)).mono (fun b _ h => .inl h.1)))
    clear hl h1 h2
    go_enter Try.func13, Try.ntmps13
    generalize hw0 : (w.alloc (lckRow a n c)).alloc (lckRow none 0 0) = w0 at *
    go_wp2_with (first
      | (go_at_call 24; ((with_reducible refine (HT.out _).mono ?_); rintro r9 w9 ⟨rfl, rfl⟩))
      | ((with_reducible refine Plan.load_lit 24 (.tmp 3) (w.heap.size) ?_ hx0 Try.underlying24 ?_ ?_ ?_); (· rfl); (· rfl); (· exact lck_info); simp only [Act.put, List.setIfInBounds_toArray, List.set_cons_zero, List.set_cons_succ])
      | ((with_reducible refine Plan.store_lit 24 (.tmp 6) _ (w.heap.size + 1) ?_ hr0 ?_ ?_ ?_ ?_ ?_ ?_); rotate_left; (· rfl); (· rfl); (· exact lck_info); (· rfl); (· simp [Value.oneCell']); simp only [Act.put]))
    exact bodyPost_ret (Plan.results_cell_tmp (p := 6) (q := 7) rfl _ _ _ _ _ _ _ rfl (setRow_heap _ _ _ _ _ _ hr0) Try.underlying24 rfl lck_info) rfl ⟨_, _, _, rfl, HEND.out _ hA _, below_setRow hA (show w.heap.size ≤ w.heap.size + 1 by omega) _⟩
set_option maxHeartbeats 4000000 in
set_option maxRecDepth 20000 in
theorem lckGive_any (F : Nat → Prop) (O : List Int) (s t : Int) (a : Option Addr) (n c : Nat) (w : World) (hl : IList w F a n c O) :
    Calls Try.prog 14 #[lckV a n c, .int .i64 s, .int .i64 t] w (LckPost w F (giveL O s t) (giveB O s t)) := by
  have hA := ((Below.refl w.heap.size w).alloc (Nat.le_refl _) (lckRow a n c)).alloc (by simp) (lckRow none 0 0)
  have hx0 := heap_first w (lckRow a n c) (lckRow none 0 0)
  have hr0 := heap_second w (lckRow a n c) (lckRow none 0 0)
  have HT := Lib.hid (fun W => lckThread_any t W)
  by_cases ht : 0 ≤ t
  · have h1 : giveB O s t = ownK O s (t) := by unfold giveB ownK; rw [decide_eq_true ht, Bool.and_true]
    have h2 : giveL O s t = passL O s (t) (-1) := by unfold giveL passL; rw [h1]
    rw [h1, h2]
    rw [decide_eq_true ht] at HT
    have HP := Lib.hid (lckPass_any _ O s (t) (-1) a n c _ (hl.cut.on (Same.below hA)))
    generalize ownK O s (t) = B at *
    generalize passL O s (t) (-1) = L at *
    unfold LckPost at HP
    clear hl h1 h2
    go_enter Try.func14, Try.ntmps14
    have hs0 : ((w.alloc (lckRow a n c)).alloc (lckRow none 0 0)).heap.size = w.heap.size + 1 + 1 := by simp
    generalize hw0 : (w.alloc (lckRow a n c)).alloc (lckRow none 0 0) = w0 at *
    go_wp2_with (first
      | (go_at_call 24; ((with_reducible refine (HT.out _).mono ?_); rintro r9 w9 ⟨rfl, rfl⟩))
      | ((with_reducible refine Plan.load_lit 24 (.tmp 3) (w.heap.size) ?_ hx0 Try.underlying24 ?_ ?_ ?_); (· rfl); (· rfl); (· exact lck_info); simp only [Act.put, List.setIfInBounds_toArray, List.set_cons_zero, List.set_cons_succ])
      | (go_at_call 25; ((with_reducible refine (HP.out).mono ?_); rintro r9 w1 ⟨a1, n1, c1, rfl, l1, h1⟩; have b1 := hA.trans (h1.mono hA.size); have hr1 := e_on h1 hr0 (e_lt hr0); clear HP hr0))
      | ((with_reducible refine Plan.store_lit 24 (.tmp 6) _ (w.heap.size + 1) ?_ hr1 ?_ ?_ ?_ ?_ ?_ ?_); rotate_left; (· rfl); (· rfl); (· exact lck_info); (· rfl); (· simp [Value.oneCell']); simp only [Act.put]))
    have D1 := (l1.on (Same.row (r := w.heap.size + 1) (fun h => by rcases h with h | h; (· have := h.2; omega); (· rw [hs0] at h; omega)) #[.slice a1 n1 c1])).mono (G := Plus F w.heap.size) (fun b _ h => by rcases h with h | h; (· exact .inl h.1); (· exact .inr (by rw [hs0] at h; omega)))
    exact bodyPost_ret (Plan.results_cell_tmp (p := 6) (q := 7) rfl _ _ _ _ _ _ _ rfl (setRow_heap _ _ _ _ _ _ hr1) Try.underlying24 rfl lck_info) rfl ⟨_, _, _, rfl, D1, below_setRow b1 (show w.heap.size ≤ w.heap.size + 1 by omega) _⟩
  · have h1 : giveB O s t = false := by unfold giveB; rw [decide_eq_false ht]; simp
    have h2 : giveL O s t = O := by unfold giveL; rw [if_neg (by rw [h1]; decide)]
    rw [h1, h2]
    rw [decide_eq_false ht] at HT
    have HEND := Lib.hid (fun W (h : Below w.heap.size w W) (cs : Array Value) => (show IList (W.setRow (w.heap.size + 1) cs) (Plus F w.heap.size) a n c O from
      ((hl.cut.on (Same.below (w' := W) h)).on (Same.row (r := w.heap.size + 1) (fun h9 => by have := h9.2; omega) cs)).mono (fun b _ h => .inl h.1)))
    clear hl h1 h2
    go_enter Try.func14, Try.ntmps14
    generalize hw0 : (w.alloc (lckRow a n c)).alloc (lckRow none 0 0) = w0 at *
    go_wp2_with (first
      | (go_at_call 24; ((with_reducible refine (HT.out _).mono ?_); rintro r9 w9 ⟨rfl, rfl⟩))
      | ((with_reducible refine Plan.load_lit 24 (.tmp 3) (w.heap.size) ?_ hx0 Try.underlying24 ?_ ?_ ?_); (· rfl); (· rfl); (· exact lck_info); simp only [Act.put, List.setIfInBounds_toArray, List.set_cons_zero, List.set_cons_succ])
      | ((with_reducible refine Plan.store_lit 24 (.tmp 6) _ (w.heap.size + 1) ?_ hr0 ?_ ?_ ?_ ?_ ?_ ?_); rotate_left; (· rfl); (· rfl); (· exact lck_info); (· rfl); (· simp [Value.oneCell']); simp only [Act.put]))
    exact bodyPost_ret (Plan.results_cell_tmp (p := 6) (q := 7) rfl _ _ _ _ _ _ _ rfl (setRow_heap _ _ _ _ _ _ hr0) Try.underlying24 rfl lck_info) rfl ⟨_, _, _, rfl, HEND.out _ hA _, below_setRow hA (show w.heap.size ≤ w.heap.size + 1 by omega) _⟩
end Go.Proofs.Ytoclcefnecghfaa.Ents
