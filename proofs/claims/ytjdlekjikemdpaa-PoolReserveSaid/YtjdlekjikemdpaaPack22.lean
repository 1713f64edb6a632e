/- Texts that belong together, part 22. -/
import Derived.Test.YtjdlekjikemdpaaPack21

/- The library's functions at lists of numbers: Contains, BinarySearch, Clone, Delete, Insert. -/
namespace Go.Proofs.Ytjdlekjikemdpaa.PoolMath
/-- how many numbers are less -/
def cntL (L : List Int) (z : Int) : Nat := L.countP (· < z)
theorem cnt_le {L : List Int} {z : Int} : cntL L z ≤ L.length := List.countP_le_length
theorem ins_cnt {L : List Int} {z : Int} (h : L.Pairwise (· < ·)) : insL L z = L.take (cntL L z) ++ ([z] ++ L.drop (cntL L z)) := by
  have key : ∀ L : List Int, L.Pairwise (· < ·) → L.takeWhile (· < z) = L.take (cntL L z) ∧ L.dropWhile (· < z) = L.drop (cntL L z) := by
    intro L
    induction L with
    | nil => intro _; exact ⟨rfl, rfl⟩
    | cons y r ih =>
      intro h
      obtain ⟨h1, h2⟩ := List.pairwise_cons.1 h
      obtain ⟨i1, i2⟩ := ih h2
      by_cases hy : y < z
      · have hc : cntL (y :: r) z = cntL r z + 1 := by unfold cntL; rw [List.countP_cons_of_pos (by simpa using hy)]
        rw [hc]
        simp [hy, i1, i2]
      · have hc : cntL (y :: r) z = 0 := by
          unfold cntL
          rw [List.countP_eq_zero]
          intro u hu
          rcases List.mem_cons.1 hu with rfl | hu
          · simpa using hy
          · have h3 := h1 u hu
            have h4 : ¬ u < z := by omega
            simpa using h4
        rw [hc]
        simp [hy]
  obtain ⟨h1, h2⟩ := key L h
  unfold insL
  rw [h1, h2]
  rfl
theorem has_contains {L : List Int} {z : Int} : L.contains z = hasL L z := by
  rw [Bool.eq_iff_iff, has_iff]
  simp
/-- a list with a number put in at a place -/
def putL (L : List Int) (k : Nat) (z : Int) : List Int := L.take k ++ ([z] ++ L.drop k)
theorem putL_len {L : List Int} {k : Nat} {z : Int} (hk : k ≤ L.length) : (putL L k z).length = L.length + 1 := by
  simp [putL]
  omega
theorem putL_at {L : List Int} {k j : Nat} {z u : Int} (hk : k ≤ L.length) (h : (putL L k z)[j]? = some u) : (j < k ∧ L[j]? = some u) ∨ (j = k ∧ u = z) ∨ (k < j ∧ L[j - 1]? = some u) := by
  unfold putL at h
  have hl : (L.take k).length = k := by rw [List.length_take]; omega
  by_cases h1 : j < k
  · rw [List.getElem?_append_left (by omega), List.getElem?_take, if_pos h1] at h
    exact .inl ⟨h1, h⟩
  · rw [List.getElem?_append_right (by omega), hl] at h
    by_cases h2 : j = k
    · subst h2
      rw [Nat.sub_self] at h
      exact .inr (.inl ⟨rfl, (Option.some.inj h).symm⟩)
    · have h3 : j - k = (j - k - 1) + 1 := by omega
      rw [h3] at h
      have h4 : (L.drop k)[j - k - 1]? = some u := h
      rw [List.getElem?_drop] at h4
      exact .inr (.inr ⟨by omega, by rw [← h4]; congr 1; omega⟩)
end Go.Proofs.Ytjdlekjikemdpaa.PoolMath
namespace Go.Proofs.Ytjdlekjikemdpaa.Ents
open Go.RowKit Plan EntMath CntMath PoolMath LayMath
theorem low_addr {w : World} {F : Nat → Prop} {x : Addr} {n c : Nat} {L : List Int} (h : IList w F (some x) n c L) (hn : 0 < n) :
    ∃ b o, x = ⟨b, o, none⟩ ∧ b < w.heap.size ∧ ∀ j, j < L.length → w.cell? ⟨b, o + j, none⟩ = some (.int .i64 (L.getD j 0)) := by
  have hlen := h.length
  obtain ⟨x', hx', hxl, hc⟩ := h.some' hn
  obtain rfl := Option.some.inj hx'
  obtain ⟨b, o, s⟩ := x
  obtain ⟨y, z, hy, hz, h0⟩ := h.at' 0 hn
  obtain rfl := Option.some.inj hy
  have hs : s = none := by
    cases s with
    | none => rfl
    | some s =>
      rw [show ((⟨b, o, some s⟩ : Addr).add 0) = ⟨b, o, some s⟩ from rfl] at h0
      unfold World.cell? at h0
      split at h0
      · simp at h0
      · cases h0
  subst hs
  refine ⟨b, o, rfl, hxl, fun j hj => ?_⟩
  have h1 := hc j _ (List.getElem?_eq_getElem hj)
  rw [Addr.add_lit] at h1
  rw [h1, List.getD_eq_getElem?_getD, List.getElem?_eq_getElem hj]
  rfl
theorem icontains_any (F : Nat → Prop) (L : List Int) (z : Int) (a : Option Addr) (n c : Nat) (w : World) (hl : IList w F a n c L) :
    Calls Try.prog 44 #[.slice a n c, .int .i64 z] w fun r w' => r = .returned (.bool (hasL L z)) ∧ w' = w := by
  have hlen := hl.length
  have hcp := hl.cap
  unfold maxLen at hcp
  rcases Nat.eq_zero_or_pos n with h0 | h0
  · subst h0
    obtain rfl := List.length_eq_zero_iff.1 hlen
    exact Try.slices_Contains_int_empty a c z w
  · obtain ⟨x, _, rfl, _, _⟩ := hl.at' 0 h0
    obtain ⟨b, o, rfl, hb, hc⟩ := low_addr hl h0
    have h1 := Try.slices_Contains_int b o n c L z w (by omega) (by omega) hc
    rw [List.take_of_length_le (by omega), has_contains] at h1
    exact h1
theorem isearch_any (F : Nat → Prop) (L : List Int) (z : Int) (a : Option Addr) (n c : Nat) (w : World) (hl : IList w F a n c L) (hs : L.Pairwise (· < ·)) (hn : n ≤ 1000000) :
    Calls Try.prog 31 #[.slice a n c, .int .i64 z] w fun r w' => r = .returned (.tuple #[.int .i64 (cntL L z : Nat), .bool (hasL L z)]) ∧ Below w.heap.size w w' := by
  have hlen := hl.length
  rcases Nat.eq_zero_or_pos n with h0 | h0
  · subst h0
    obtain rfl := List.length_eq_zero_iff.1 hlen
    refine (Try.slices_BinarySearch_int_empty a c z w).mono ?_
    rintro r w' ⟨rfl, rfl⟩
    exact ⟨rfl, Below.refl _ _⟩
  · obtain ⟨x, _, rfl, _, _⟩ := hl.at' 0 h0
    obtain ⟨b, o, rfl, hb, hc⟩ := low_addr hl h0
    have h1 := Try.slices_BinarySearch_int b o n c L z w (by omega) (by omega) hc (by
      rw [List.take_of_length_le (by omega)]
      exact hs.imp fun h => by omega)
    rw [List.take_of_length_le (by omega), has_contains] at h1
    refine h1.mono ?_
    rintro r w' ⟨rfl, q, rfl⟩
    exact ⟨rfl, (Below.refl _ _).trans ⟨rfl, rfl, rfl, Nat.le_refl _, fun _ _ => rfl⟩⟩
/-- a list of the call's own -/
def OwnL (B : Nat) (w : World) (n : Nat) (Z : List Int) (r : Ending) (w' : World) : Prop := ∃ v, r = .returned v ∧ w'.ownsRow B 3 1 v n (intC Z) ∧ Below B w w'
set_option maxHeartbeats 4000000 in
theorem iclone_all (F : Nat → Prop) (Z : List Int) (a : Option Addr) (n c : Nat) (w : World) (hl : IList w F a n c Z) (hm : n ≤ 900000) :
    Calls Try.prog 33 #[.slice a n c] w (OwnL w.heap.size w n Z) := by
  have hlen := hl.length
  have q22 : ∀ (w : World) (a : Option Addr) (n c n' c' : Nat), (binOp .eql 22 (.slice a n c) (.slice none n' c')).run Try.prog w = .ok (.bool a.isNone) w := fun w a n c n' c' => Lib.run_eql_slice_nil w _ _ a n c n' c' Try.underlying22
  unfold OwnL
  cases a with
  | none =>
    obtain ⟨rfl, rfl, rfl⟩ : n = 0 ∧ c = 0 ∧ Z = [] := by
      rcases hl with ⟨_, h1, h2, h3⟩ | ⟨x, h1, _⟩
      · exact ⟨h1, h2, h3⟩
      · cases h1
    clear hl
    go_enter Try.func33, Try.ntmps33
    go_wp2_with fail
    go_ret
    exact ⟨_, rfl, World.ownsRow_nil _ _ _ _, Below.refl _ _⟩
  | some x =>
    have hA := (Below.refl w.heap.size w).alloc (Nat.le_refl _) (.cells #[] 3)
    have HL := Lib.hid (hl.same hA)
    have HO3 := Lib.hid (ints_empty w (H := w.heap.size) rfl)
    have hsz : w.heap.size ≤ (w.alloc (.cells #[] 3)).heap.size := hA.size
    clear hl
    go_enter Try.func33, Try.ntmps33
    go_wp2_with (first
      | (at_builtin; refine append_ints rfl _ _ rfl w.heap.size _ 0 [] (by rfl) HO3.out _ _ _ Z rfl HL.out (by omega) hsz ?_; intro v9 w9 own9 gr9; rw [Nat.zero_add, List.nil_append] at own9; have b9 := hA.grown gr9 hA.size (fun z9 h9 => by have h8 := Option.some.inj (show some w.heap.size = some z9 from h9); omega)))
    go_ret
    exact ⟨_, rfl, own9, b9⟩
theorem ilist_mk {w : World} {B g n c : Nat} {L : List Int} (hlen : L.length = n) (hnc : n ≤ c) (hc : c ≤ maxLen) (hB : B ≤ g) (hg : g < w.heap.size) (h : ∀ (j : Nat) z, L[j]? = some z → w.cell? ⟨g, j, none⟩ = some (.int .i64 z)) :
    IList w (fun b => B ≤ b) (some ⟨g, 0, none⟩) n c L := .inr ⟨_, rfl, hnc, hc, hlen, hg, hB, fun j z hz => by rw [Addr.add_lit, Nat.zero_add]; exact h j z hz⟩
theorem own_room {w : World} {B g n c : Nat} {L : List Int} (h : w.ownsRow B 3 1 (.slice (some ⟨g, 0, none⟩) n c) n (intC L)) :
    B ≤ g ∧ g < w.heap.size ∧ n ≤ c ∧ c ≤ maxLen ∧ L.length = n ∧ w.shape? g = some (3, c) ∧ (∀ j, j < c → (w.cell? ⟨g, j, none⟩).isSome = true) ∧ ∀ j, w.frozen? ⟨g, j, none⟩ = false := by
  have hn : L.length = n := by have := h.1; rw [intC_len] at this; omega
  rcases h.2 with ⟨h, _⟩ | ⟨g', cap', cur, hv, hb, hg, h1, h2, h3, _⟩
  · cases h
  · cases hv
    rw [Nat.mul_one] at h3
    refine ⟨hb, e_lt hg, h1, h2, hn, by unfold World.shape?; rw [hg]; simp [h3], fun j hj => ?_, fun j => by unfold World.frozen?; rw [hg]; simp⟩
    unfold World.cell?
    rw [hg]
    simp [h3, hj]
theorem pl_size (g : Nat) : ∀ (vs : List Value) (o : Nat) (w : World), (w.setCells g o vs).heap.size = w.heap.size
  | [], _, _ => rfl
  | v :: r, o, w => by
    rw [World.setCells, pl_size g r]
    exact World.size_setCell _ _ _
theorem pl_below {B g : Nat} {w0 : World} (hg : B ≤ g) : ∀ (vs : List Value) (o : Nat) {w' : World}, Below B w0 w' → Below B w0 (w'.setCells g o vs)
  | [], _, _, h => h
  | v :: r, o, _, h => pl_below hg r (o + 1) (h.setCell hg v)
theorem below_drewN' {B : Nat} {a w : World} (h : Below B a w) (n : Nat) : Below B a (w.drewN n) := h.trans ⟨rfl, rfl, rfl, Nat.le_refl _, fun _ _ => rfl⟩
/-- a list of the call's own without its first number -/
def TailL (B : Nat) (w : World) (n : Nat) (Z : List Int) (r : Ending) (w' : World) : Prop := ∃ a c, r = .returned (.slice a n c) ∧ IList w' (fun b => B ≤ b) a n c Z ∧ Below B w w'
theorem idelete_any (B : Nat) (L : List Int) (v : Value) (n : Nat) (w : World) (h : w.ownsRow B 3 1 v n (intC L)) (h0 : 0 < n) :
    Calls Try.prog 43 #[v, .int .i64 0, .int .i64 1] w (TailL B w (n - 1) (L.drop 1)) := by
  obtain ⟨g, c, rfl, hB, hg⟩ : ∃ g c, v = .slice (some ⟨g, 0, none⟩) n c ∧ B ≤ g ∧ g < w.heap.size := by
    rcases h.2 with ⟨_, h1⟩ | ⟨g, cap, cur, hv, hb, hg, _⟩
    · omega
    · exact ⟨g, cap, hv, hb, e_lt hg⟩
  obtain ⟨_, _, h3, h4, h5, _, h7, h8⟩ := own_room h
  have hm := h4
  unfold maxLen at hm
  have hcl : ∀ j, j < L.length → w.cell? ⟨g, 0 + j, none⟩ = some (.int .i64 (L.getD j 0)) := fun j hj => by
    rw [Nat.zero_add, (int_own_cell h (List.getElem?_eq_getElem hj)).1, List.getD_eq_getElem?_getD, List.getElem?_eq_getElem hj]
    rfl
  have h1 := Try.slices_Delete_int_cells g 0 n c 0 1 L w (by omega) h3 (by omega) (by omega) (by omega) hcl (fun j _ => by rw [Nat.zero_add]; exact h8 j)
  refine h1.mono ?_
  rintro r w' ⟨rfl, q, rfl⟩
  refine ⟨_, _, rfl, ilist_mk (by rw [List.length_drop, h5]) (by omega) h4 hB (by rw [pl_size]; exact hg) (fun j z hz => ?_), pl_below hB _ _ (below_drewN' (Below.refl _ _) q)⟩
  rw [List.take_of_length_le (show L.length ≤ n by omega), List.take_zero, List.nil_append]
  have hj : j < (L.drop 1).length := (List.getElem?_eq_some_iff.1 hz).1
  have hjm : j < ((L.drop 1 ++ List.replicate (1 - 0) 0).map (Value.int .i64)).length := by rw [List.length_map, List.length_append]; omega
  have h9 := World.cell?_setCells_in g ((L.drop 1 ++ List.replicate (1 - 0) 0).map (Value.int .i64)) 0 (w.drewN q) (fun j hj => by
    rw [List.length_map, List.length_append, List.length_drop, List.length_replicate] at hj
    rw [Nat.zero_add]
    exact h7 j (by omega)) j hjm
  rw [Nat.zero_add] at h9
  rw [h9]
  congr 1
  have hz2 : ((L.drop 1 ++ List.replicate (1 - 0) 0).map (Value.int .i64))[j]? = some (.int .i64 z) := by
    rw [List.getElem?_map, List.getElem?_append_left hj, hz]
    rfl
  exact (List.getElem?_eq_some_iff.1 hz2).2
end Go.Proofs.Ytjdlekjikemdpaa.Ents

/- The library's Insert at a list of numbers of the call's own. -/
namespace Go.Proofs.Ytjdlekjikemdpaa.Ents
open Go.RowKit Plan EntMath CntMath PoolMath LayMath
theorem pl_in {w : World} {g o j : Nat} {vs : List Value} {u : Value} (hs : ∀ j, j < vs.length → (w.cell? ⟨g, o + j, none⟩).isSome = true) (hj : vs[j]? = some u) : (w.setCells g o vs).cell? ⟨g, o + j, none⟩ = some u := by
  obtain ⟨h1, h2⟩ := List.getElem?_eq_some_iff.1 hj
  rw [World.cell?_setCells_in g vs o w hs j h1, h2]
theorem pl_out {w : World} {g o j : Nat} {vs : List Value} (h : j < o ∨ o + vs.length ≤ j) : (w.setCells g o vs).cell? ⟨g, j, none⟩ = w.cell? ⟨g, j, none⟩ :=
  World.cell?_setCells_out g vs o w _ (fun _ _ => h)
theorem pl_some {w : World} {g o : Nat} (vs : List Value) {q : Addr} (h : (w.cell? q).isSome = true) : ((w.setCells g o vs).cell? q).isSome = true := World.isSome_setCells g vs o w q h
theorem pl_drop {L : List Int} {k j : Nat} {u : Int} (h : L[k + j]? = some u) : ((intC L).drop k)[j]? = some (.int .i64 u) := by
  rw [List.getElem?_drop]
  exact intC_at h
/-- behind an insert in place, the cells -/
theorem pl_cells {W : World} {g n k : Nat} {L : List Int} {z : Int} (hlen : L.length = n) (hk : k ≤ n) (hs : ∀ j, j < n + 1 → (W.cell? ⟨g, j, none⟩).isSome = true) (hL : ∀ (j : Nat) u, j < k → L[j]? = some u → W.cell? ⟨g, j, none⟩ = some (.int .i64 u))
    {W1 : World} (h1 : ∀ j, W1.cell? ⟨g, j, none⟩ = ((W.setCells g (k + 1) ((intC L).drop k)).setCells g k [.int .i64 z]).cell? ⟨g, j, none⟩) (j : Nat) (u : Int) (hj : (putL L k z)[j]? = some u) : W1.cell? ⟨g, j, none⟩ = some (.int .i64 u) := by
  have hdl : ((intC L).drop k).length = n - k := by rw [List.length_drop, intC_len, hlen]
  rw [h1]
  rcases putL_at (by omega) hj with ⟨h2, h3⟩ | ⟨h2, h3⟩ | ⟨h2, h3⟩
  · rw [pl_out (.inl h2), pl_out (.inl (by omega))]
    exact hL j u h2 h3
  · subst h2 h3
    exact pl_in (j := 0) (fun i hi => pl_some _ (hs _ (by simp only [List.length_cons, List.length_nil] at hi; omega))) rfl
  · rw [pl_out (.inr (by simp only [List.length_cons, List.length_nil]; omega))]
    have h4 := pl_in (w := W) (g := g) (o := k + 1) (j := j - 1 - k) (vs := (intC L).drop k) (u := .int .i64 u) (fun i hi => hs _ (by omega)) (pl_drop (by rw [← h3]; congr 1; omega))
    rwa [show k + 1 + (j - 1 - k) = j from by omega] at h4
/-- .. and behind one in a new row -/
theorem pl_cells2 {W : World} {g n k : Nat} {L : List Int} {z : Int} (hlen : L.length = n) (hk : k ≤ n) (hs : ∀ j, j < n + 1 → (W.cell? ⟨g, j, none⟩).isSome = true) (hL : ∀ (j : Nat) u, j < k → L[j]? = some u → W.cell? ⟨g, j, none⟩ = some (.int .i64 u))
    {W1 : World} (h1 : ∀ j, W1.cell? ⟨g, j, none⟩ = ((W.setCells g k [.int .i64 z]).setCells g (k + 1) ((intC L).drop k)).cell? ⟨g, j, none⟩) (j : Nat) (u : Int) (hj : (putL L k z)[j]? = some u) : W1.cell? ⟨g, j, none⟩ = some (.int .i64 u) := by
  have hdl : ((intC L).drop k).length = n - k := by rw [List.length_drop, intC_len, hlen]
  rw [h1]
  rcases putL_at (by omega) hj with ⟨h2, h3⟩ | ⟨h2, h3⟩ | ⟨h2, h3⟩
  · rw [pl_out (.inl (by omega)), pl_out (.inl h2)]
    exact hL j u h2 h3
  · subst h2 h3
    rw [pl_out (.inl (by omega))]
    exact pl_in (j := 0) (fun i hi => hs _ (by simp only [List.length_cons, List.length_nil] at hi; omega)) rfl
  · have h4 := pl_in (w := W.setCells g k [.int .i64 z]) (g := g) (o := k + 1) (j := j - 1 - k) (vs := (intC L).drop k) (u := .int .i64 u) (fun i hi => pl_some _ (hs _ (by omega))) (pl_drop (by rw [← h3]; congr 1; omega))
    rwa [show k + 1 + (j - 1 - k) = j from by omega] at h4
theorem zc_size (n : Nat) : (Builtin.zeroCells (Value.int .i64 0).cells n).size = n := by
  rw [size_zeroCells]
  show n * 1 = n
  omega
set_option maxHeartbeats 4000000 in
theorem iinsert_any (B : Nat) (L : List Int) (z : Int) (v : Value) (n k vb : Nat) (w : World) (h : w.ownsRow B 3 1 v n (intC L)) (hB : B ≤ w.heap.size) (hk : k ≤ n) (hv : w.heap[vb]? = some (.cells #[.int .i64 z] 3 (0, 0))) (hne : ∀ b, v.ownBlock = some b → b ≠ vb) (hn : n ≤ 900000) :
    Calls Try.prog 32 #[v, .int .i64 (k : Int), .slice (some ⟨vb, 0, none⟩) 1 1] w (TailL B w (n + 1) (putL L k z)) := by
  have hlen : L.length = n := by have := h.1; rw [intC_len] at this; omega
  have hvs : ∀ (j : Nat) u, ([.int .i64 z] : List Value)[j]? = some u → w.cell? ⟨vb, 0 + j, none⟩ = some u := fun j u hj => by
    have hj0 : j = 0 := by have := (List.getElem?_eq_some_iff.1 hj).1; simp at this; exact this
    subst hj0
    cases hj
    exact cell_of_row _ _ 0 _ _ _ hv
  have h1v : ∀ u ∈ ([.int .i64 z] : List Value), u.oneCell' = true := fun u hu => by simp at hu; subst hu; rfl
  have hlc : (intC L).length = n := by rw [intC_len]; exact hlen
  have hend : putL L n z = L ++ [z] := by
    unfold putL
    rw [List.take_of_length_le (by omega), List.drop_eq_nil_of_le (by omega), List.append_nil]
  obtain ⟨g, c, rfl, hgB, hg⟩ | ⟨rfl, h0⟩ : (∃ g c, v = .slice (some ⟨g, 0, none⟩) n c ∧ B ≤ g ∧ g < w.heap.size) ∨ (v = .slice none 0 0 ∧ n = 0) := by
    rcases h.2 with h1 | ⟨g, cap, cur, h1, hb, hg, _⟩
    · exact .inr h1
    · exact .inl ⟨g, cap, h1, hb, e_lt hg⟩
  · obtain ⟨_, _, h3, h4, _, h6, h7, h8⟩ := own_room h
    have hm := h4
    unfold maxLen at hm
    have hcs : ∀ (j : Nat) u, (intC L)[j]? = some u → w.cell? ⟨g, 0 + j, none⟩ = some u := fun j u hj => by
      have := h.cells (g := g) rfl j u hj
      rwa [Addr.add_lit] at this
    have hcL : ∀ (j : Nat) u, j < k → L[j]? = some u → w.cell? ⟨g, j, none⟩ = some (.int .i64 u) := fun j u _ hj => (int_own_cell h hj).1
    have hgv : vb ≠ g := fun e => hne g rfl e.symm
    by_cases hr : n + 1 ≤ c
    · by_cases hkn : k < n
      · have q := Any2.slices_Insert_int_shift Try.laysIns g 0 n c k vb 0 1 1 (intC L) [.int .i64 z] w hkn (by omega) hr (by omega) hgv hlc rfl hcs (fun j hj => by rw [Nat.zero_add]; exact h7 j (by omega)) (fun j _ => by rw [Nat.zero_add]; exact h8 j) hvs (intC_flat L) h1v 3 3 1 c
          (by unfold World.shape?; rw [hv]; rfl) h6 (by omega) (free_row_c hv) (free_row_c hv)
        refine q.mono ?_
        rintro r w' ⟨rfl, rfl⟩
        rw [Nat.zero_add, Nat.zero_add]
        exact ⟨_, _, rfl, ilist_mk (by rw [putL_len (by omega), hlen]) hr h4 hgB (by rw [pl_size, pl_size]; exact hg) (pl_cells (W := w.drew) hlen hk (fun j hj => h7 j (by omega)) hcL (fun _ => rfl)), pl_below hgB _ _ (pl_below hgB _ _ (Below.refl _ _).drew)⟩
      · obtain rfl : k = n := by omega
        have q := Any2.slices_Insert_int_end_room Try.laysIns g 0 k c vb 0 1 1 [.int .i64 z] w (by omega) hr (by omega) rfl (fun j hj => by rw [Nat.zero_add]; exact h7 _ (by omega)) (fun j _ => by rw [Nat.zero_add]; exact h8 _) hvs h1v
        refine q.mono ?_
        rintro r w' ⟨rfl, rfl⟩
        rw [Nat.zero_add]
        refine ⟨_, _, rfl, ilist_mk (by rw [putL_len (by omega), hlen]) hr h4 hgB (by rw [pl_size]; exact hg) (pl_cells (W := w) hlen (Nat.le_refl _) (fun j hj => h7 j (by omega)) hcL (fun j => ?_)), pl_below hgB _ _ (Below.refl _ _)⟩
        rw [List.drop_eq_nil_of_le (by omega)]
        rfl
    · have hG := grownCap_ge w (n + 1) c 3
      have hGm := grownCap_le_maxLen w (n + 1) c 3 (by unfold maxLen; omega)
      by_cases hkn : k < n
      · have q := Any2.slices_Insert_int_grow Try.laysIns g 0 n c k vb 0 1 1 (intC L) [.int .i64 z] w hkn (by omega) h3 (by omega) (by omega) hlc rfl hcs hvs (intC_flat L) h1v
        refine q.mono ?_
        rintro r w' ⟨rfl, rfl⟩
        obtain ⟨C, hC⟩ : ∃ C, C = ((intC L).take k).toArray ++ Builtin.zeroCells (Value.int .i64 0).cells (n + 1 - k) ++ Builtin.zeroCells (Value.int .i64 0).cells (grownCap w (n + 1) c 3 - (n + 1)) := ⟨_, rfl⟩
        have hCs : C.size = grownCap w (n + 1) c 3 := by
          rw [hC, Array.size_append, Array.size_append, zc_size, zc_size, List.size_toArray, List.length_take, hlc]
          omega
        have hnew := heap_alloc_new w (.cells C 3)
        have hcC : ∀ (j : Nat) u, C[j]? = some u → (w.alloc (.cells C 3)).cell? ⟨w.heap.size, j, none⟩ = some u := fun j u hj => (cell_of_row _ _ j _ _ _ hnew).trans hj
        have hCl : ∀ (j : Nat) u, j < k → L[j]? = some u → C[j]? = some (.int .i64 u) := fun j u hj hu => by
          rw [hC, Array.getElem?_append_left (by rw [Array.size_append, List.size_toArray, List.length_take, hlc]; omega), Array.getElem?_append_left (by rw [List.size_toArray, List.length_take, hlc]; omega), List.getElem?_toArray, List.getElem?_take, if_pos hj]
          exact intC_at hu
        have e1 : (((intC L).take k).toArray ++ Builtin.zeroCells (Value.int .i64 0).cells (n + 1 - k) ++ Builtin.zeroCells (Value.int .i64 0).cells (grownCap w (n + 1) c (Try.laysIns_ren.t 3) - (n + 1))) = C := hC.symm
        rw [e1]
        refine ⟨_, _, rfl, ilist_mk (by rw [putL_len (by omega), hlen]) hG hGm hB (by rw [pl_size]; show w.heap.size < ((w.alloc _).drew.setCells _ _ _).heap.size; rw [pl_size]; show _ < (w.alloc _).heap.size; rw [World.size_alloc]; omega)
          (pl_cells2 (W := (w.alloc (.cells C 3)).drew.drew) hlen hk (fun j hj => ?_) (fun j u h1 h2 => hcC j _ (hCl j u h1 h2)) (fun _ => by rw [drew_setCells]; rfl)), ?_⟩
        · rw [show (w.alloc (.cells C 3)).drew.drew.cell? ⟨w.heap.size, j, none⟩ = _ from hcC j _ (Array.getElem?_eq_getElem (by omega))]; rfl
        · exact pl_below hB _ _ (Below.drew (pl_below hB _ _ (Below.drew ((Below.refl _ _).alloc hB _))))
      · obtain rfl : k = n := by omega
        have q := Any2.slices_Insert_int_end_grow Try.laysIns (some ⟨g, 0, none⟩) k c vb 0 1 1 (intC L) [.int .i64 z] w (by omega) h3 (by omega) (by omega) hlc rfl (fun e => by cases e) (fun a ha j u hj => by obtain rfl := Option.some.inj ha; rw [Addr.add_lit]; exact hcs j u hj) hvs h1v
        refine q.mono ?_
        rintro r w' ⟨rfl, rfl⟩
        have hnew := heap_alloc_new w.drew (.cells ((intC L ++ [Value.int .i64 z]).toArray ++ Builtin.zeroCells (Value.int .i64 0).cells (grownCap w (k + 1) c 3 - (k + 1))) 3)
        refine ⟨_, _, rfl, ilist_mk (by rw [putL_len (by omega), hlen]) hG hGm hB (by rw [World.size_alloc]; exact Nat.lt_succ_self _) (fun j u hj => ?_), (Below.refl _ _).drew.alloc hB _⟩
        refine (cell_of_row _ _ j _ _ _ hnew).trans ?_
        rw [hend] at hj
        have hj2 := (List.getElem?_eq_some_iff.1 hj).1
        rw [List.length_append, List.length_cons, List.length_nil] at hj2
        rw [Array.getElem?_append_left (by rw [List.size_toArray, List.length_append, hlc, List.length_cons, List.length_nil]; omega), List.getElem?_toArray]
        rw [show intC L ++ [Value.int .i64 z] = intC (L ++ [z]) from by simp [intC]]
        exact intC_at hj
  · subst h0
    obtain rfl : k = 0 := by omega
    obtain rfl := List.length_eq_zero_iff.1 hlen
    have hG := grownCap_ge w (0 + 1) 0 3
    have hGm := grownCap_le_maxLen w (0 + 1) 0 3 (by unfold maxLen; omega)
    have q := Any2.slices_Insert_int_end_grow Try.laysIns none 0 0 vb 0 1 1 [] [.int .i64 z] w (by omega) (by omega) (by omega) (by omega) rfl rfl (fun _ => rfl) (fun a ha => by cases ha) hvs h1v
    refine q.mono ?_
    rintro r w' ⟨rfl, rfl⟩
    have hnew := heap_alloc_new w.drew (.cells (([] ++ [.int .i64 z] : List Value).toArray ++ Builtin.zeroCells (Value.int .i64 0).cells (grownCap w (0 + 1) 0 3 - (0 + 1))) 3)
    refine ⟨_, _, rfl, ilist_mk rfl hG hGm hB (by rw [World.size_alloc]; exact Nat.lt_succ_self _) (fun j u hj => ?_), (Below.refl _ _).drew.alloc hB _⟩
    refine (cell_of_row _ _ j _ _ _ hnew).trans ?_
    have hj2 := (List.getElem?_eq_some_iff.1 hj).1
    rw [putL_len (by omega)] at hj2
    simp only [List.length_nil] at hj2
    obtain rfl : j = 0 := by omega
    cases hj
    rw [Array.getElem?_append_left (by simp)]
    rfl
end Go.Proofs.Ytjdlekjikemdpaa.Ents

/- The walks of the program's freeValid, laneValid, Valid of pools. -/
namespace Go.Proofs.Ytjdlekjikemdpaa.Ents
open Go.RowKit Plan EntMath CntMath PoolMath LayMath
set_option maxHeartbeats 8000000 in
set_option maxRecDepth 20000 in
theorem poFree_any (F : Nat → Prop) (L : List Int) (cz cs cb cq cd ch : Int) (a : Option Addr) (n c : Nat) (h k : Int) (w : World) (hl : IList w F a n c L) :
    Calls Try.prog 36 #[poV a n c h k, confV cz cs cb cq cd ch] w fun r w' => r = .returned (.bool (freeOk (isN cz cs cb cq cd ch) L L.length)) ∧ Below w.heap.size w w' := by
  have hlen := hl.length
  have K := PBox.start w (poRow a n c h k) (confRow cz cs cb cq cd ch)
  have H1 := Lib.hid (fun W (h : Below w.heap.size w W) i (hi : i < n) => (hl.same h).at' i hi)
  have HDC := Lib.hid (isData_any cz cs cb cq cd ch)
  have hcp0 := hl.cap
  unfold maxLen at hcp0
  unfold confV at *
  generalize isN cz cs cb cq cd ch = D at *
  have hVF := fun j (hj : j < n) (hs : stepOk D L j = false) => @free_bad D L j n hj hs
  have hVT := fun (hs : freeOk D L n = true) => hs
  rw [hlen]
  generalize hR : freeOk D L n = R at hVF hVT ⊢
  have HVF := Lib.hid hVF
  have HVT := Lib.hid hVT
  have HRR := Lib.hid hR
  clear hVF hVT hl hR
  go_enter Try.func36, Try.ntmps36
  generalize hw0 : (w.alloc (poRow a n c h k)).alloc (confRow cz cs cb cq cd ch) = w0 at *
  obtain ⟨v0, v1, v2⟩ := three_row K.hp
  go_wp2_with fail
  go_loopw [5, 6, 10] (fun _ _ x wr => ∃ j : Nat, x = .int .i64 (j : Int) ∧ j ≤ n ∧ RowKit.Hid (freeOk D L j = true) ∧ PBox w wr (poRow a n c h k) (confRow cz cs cb cq cd ch)) (fun _ _ x _ => n - (intOf x).toNat)
  case atStart => exact ⟨0, rfl, by omega, Lib.hid free_zero, K⟩
  case round =>
    clear v0 v1 v2 K
    obtain ⟨j, rfl, hj, hfr, K⟩ := hrel
    obtain ⟨v0, v1, v2⟩ := three_row K.hp
    by_cases hlt : j < n
    · obtain ⟨x, y, rfl, hz, hc⟩ := H1.out wr K.hb j hlt
      have hjI : (j : Int) < (n : Int) := by omega
      have HCC := Lib.hid (fun W (h : Below w.heap.size w W) => (show W.cell? (x.add j) = some (.int .i64 y) from by obtain ⟨x', r', e1, e2, e3⟩ := H1.out W h j hlt; obtain rfl := Option.some.inj e1; rw [hz] at e2; obtain rfl := Option.some.inj e2; exact e3))
      have HDYi := HDC.out y
      rcases Nat.eq_zero_or_pos j with h0 | h0
      · have hst : stepOk D L j = D y := by
          subst h0
          exact step_zero hz
        have d1 : decide ((0 : Int) < (j : Int)) = false := by simp; omega
        have d2 : decide (0 < j) = false := by simp; omega
        clear h0
        cases hd : D y
        · have hR := Lib.hid (HVF.out j hlt (by rw [hst, hd]))
          rw [hd] at HDYi
          have HDY := Lib.hid HDYi
          clear HDYi hst hz
          go_wp2_with (first
            | ((with_reducible refine Plan.load_lit 26 (.tmp 3) (w.heap.size + 1) ?_ K.hc Try.underlying26 ?_ ?_ ?_); (· rfl); (· rfl); (· exact conf_info); simp only [Act.put, List.setIfInBounds_toArray, List.set_cons_zero, List.set_cons_succ])
            | (go_at_call 30; ((with_reducible refine (HDY.out _).mono ?_); rintro r9 w2 ⟨rfl, h2⟩; have K1 := K.on h2; clear K hc v0 v1 v2 h2; have K := K1; clear K1; obtain ⟨v0, v1, v2⟩ := three_row K.hp; have hc := HCC.out _ K.hb)))
          go_ret
          exact ⟨i_b hR.out.symm, K.hb⟩
        · have HN := Lib.hid (show freeOk D L (j + 1) = true from by rw [free_next, hfr.out, hst, hd]; rfl)
          rw [hd] at HDYi
          have HDY := Lib.hid HDYi
          clear HDYi hst hz
          go_wp2_with (first
            | ((with_reducible refine Plan.load_lit 26 (.tmp 3) (w.heap.size + 1) ?_ K.hc Try.underlying26 ?_ ?_ ?_); (· rfl); (· rfl); (· exact conf_info); simp only [Act.put, List.setIfInBounds_toArray, List.set_cons_zero, List.set_cons_succ])
            | (go_at_call 30; ((with_reducible refine (HDY.out _).mono ?_); rintro r9 w2 ⟨rfl, h2⟩; have K1 := K.on h2; clear K hc v0 v1 v2 h2; have K := K1; clear K1; obtain ⟨v0, v1, v2⟩ := three_row K.hp; have hc := HCC.out _ K.hb)))
          go_roundw
          case rel => exact ⟨j + 1, by go_num, by omega, HN, K⟩
          case measure => simp [intOf]; omega
      · obtain ⟨x', yp, hx', hzp, hcq⟩ := H1.out wr K.hb (j - 1) (by omega)
        obtain rfl := Option.some.inj hx'
        have HPC := Lib.hid (fun W (h : Below w.heap.size w W) => (show W.cell? (x.add (j - 1)) = some (.int .i64 yp) from by obtain ⟨x', r', e1, e2, e3⟩ := H1.out W h (j - 1) (by omega); obtain rfl := Option.some.inj e1; rw [hzp] at e2; obtain rfl := Option.some.inj e2; exact e3))
        have hst := @step_next D L (j - 1) yp y hzp (by rw [show j - 1 + 1 = j from by omega]; exact hz)
        rw [show j - 1 + 1 = j from by omega] at hst
        clear hx' hz hzp
        have d1 : decide ((0 : Int) < (j : Int)) = true := by simp; omega
        have d2 : decide (0 < j) = true := by simp; omega
        have hj0 : (0 : Int) < (j : Int) := by omega
        clear hcq
        cases hd : D y
        · have hR := Lib.hid (HVF.out j hlt (by rw [hst, hd]; rfl))
          rw [hd] at HDYi
          have HDY := Lib.hid HDYi
          clear HDYi hst
          go_wp2_with (first
            | ((with_reducible refine Plan.load_lit 26 (.tmp 3) (w.heap.size + 1) ?_ K.hc Try.underlying26 ?_ ?_ ?_); (· rfl); (· rfl); (· exact conf_info); simp only [Act.put, List.setIfInBounds_toArray, List.set_cons_zero, List.set_cons_succ])
            | (go_at_call 30; ((with_reducible refine (HDY.out _).mono ?_); rintro r9 w2 ⟨rfl, h2⟩; have K1 := K.on h2; clear K hc v0 v1 v2 h2; have K := K1; clear K1; obtain ⟨v0, v1, v2⟩ := three_row K.hp; have hc := HCC.out _ K.hb; have hcq := HPC.out _ K.hb)))
          go_ret
          exact ⟨i_b hR.out.symm, K.hb⟩
        · rw [hd] at HDYi hst
          have HDY := Lib.hid HDYi
          clear HDYi
          by_cases hq : y ≤ yp
          · have d3 : decide (y ≤ yp) = true := by simpa using hq
            have hR := Lib.hid (HVF.out j hlt (by rw [hst, decide_eq_false (show ¬ yp < y by omega)]; rfl))
            clear hst
            go_wp2_with (first
              | ((with_reducible refine Plan.load_lit 26 (.tmp 3) (w.heap.size + 1) ?_ K.hc Try.underlying26 ?_ ?_ ?_); (· rfl); (· rfl); (· exact conf_info); simp only [Act.put, List.setIfInBounds_toArray, List.set_cons_zero, List.set_cons_succ])
              | (go_at_call 30; ((with_reducible refine (HDY.out _).mono ?_); rintro r9 w2 ⟨rfl, h2⟩; have K1 := K.on h2; clear K hc v0 v1 v2 h2; have K := K1; clear K1; obtain ⟨v0, v1, v2⟩ := three_row K.hp; have hc := HCC.out _ K.hb; have hcq := HPC.out _ K.hb)))
            go_ret
            exact ⟨i_b hR.out.symm, K.hb⟩
          · have d3 : decide (y ≤ yp) = false := by simpa using hq
            have HN := Lib.hid (show freeOk D L (j + 1) = true from by rw [free_next, hfr.out, hst, decide_eq_true (show yp < y by omega)]; rfl)
            clear hst
            go_wp2_with (first
              | ((with_reducible refine Plan.load_lit 26 (.tmp 3) (w.heap.size + 1) ?_ K.hc Try.underlying26 ?_ ?_ ?_); (· rfl); (· rfl); (· exact conf_info); simp only [Act.put, List.setIfInBounds_toArray, List.set_cons_zero, List.set_cons_succ])
              | (go_at_call 30; ((with_reducible refine (HDY.out _).mono ?_); rintro r9 w2 ⟨rfl, h2⟩; have K1 := K.on h2; clear K hc v0 v1 v2 h2; have K := K1; clear K1; obtain ⟨v0, v1, v2⟩ := three_row K.hp; have hc := HCC.out _ K.hb; have hcq := HPC.out _ K.hb)))
            go_roundw
            case rel => exact ⟨j + 1, by go_num, by omega, HN, K⟩
            case measure => simp [intOf]; omega
    · obtain rfl : j = n := by omega
      have hjI : ¬ (j : Int) < (j : Int) := by omega
      go_wp2_with fail
      go_ret
      exact ⟨i_b (HRR.out.symm.trans hfr.out).symm, K.hb⟩
set_option maxHeartbeats 4000000 in
set_option maxRecDepth 20000 in
theorem poLane_any (F : Nat → Prop) (L : List Int) (cz cs cb cq cd ch s : Int) (a : Option Addr) (n c : Nat) (h k : Int) (w : World) (hl : IList w F a n c L) :
    Calls Try.prog 37 #[poV a n c h k, confV cz cs cb cq cd ch, .int .i64 s] w fun r w' => r = .returned (.bool (laneOk (isN cz cs cb cq cd ch) L s)) ∧ Below w.heap.size w w' := by
  have K := PBox.start w (poRow a n c h k) (confRow cz cs cb cq cd ch)
  have HH := Lib.hid (fun W (q : Below w.heap.size w W) => icontains_any _ L s a n c W (hl.same q))
  have HD := Lib.hid (isData_any cz cs cb cq cd ch s)
  have hR : laneOk (isN cz cs cb cq cd ch) L s = (decide (s = -1) || (isN cz cs cb cq cd ch s && !hasL L s)) := rfl
  rw [hR]
  unfold confV at *
  generalize isN cz cs cb cq cd ch s = D at *
  generalize hasL L s = E at *
  clear hl hR
  by_cases q1 : s = -1
  · have t1 : (s == (-1 : Int)) = true := by simpa using q1
    rw [decide_eq_true q1, Bool.true_or]
    clear q1
    go_enter Try.func37, Try.ntmps37
    generalize hw0 : (w.alloc (poRow a n c h k)).alloc (confRow cz cs cb cq cd ch) = w0 at *
    go_wp2_with fail
    go_ret
    exact ⟨rfl, K.hb⟩
  · have t1 : (s == (-1 : Int)) = false := by simpa using q1
    rw [decide_eq_false q1, Bool.false_or]
    clear q1
    cases D <;> cases E
    all_goals
      go_enter Try.func37, Try.ntmps37
      generalize hw0 : (w.alloc (poRow a n c h k)).alloc (confRow cz cs cb cq cd ch) = w0 at *
      go_wp2_with (first
        | ((with_reducible refine load_lit_gc 26 (.tmp 4) (w.heap.size + 1) ?_ ?_ K.hc Try.underlying26 ?_ ?_ ?_); (· rfl); (· rfl); (· rfl); (· exact conf_info); simp only [Act.put, List.setIfInBounds_toArray, List.set_cons_zero, List.set_cons_succ])
        | (go_at_call 30; ((with_reducible refine (HD.out _).mono ?_); rintro r9 w2 ⟨rfl, h2⟩; have K1 := K.on h2; clear K hw0 h2; have K := K1; clear K1; obtain ⟨v0, v1, v2⟩ := three_row K.hp))
        | (go_at_call 44; ((with_reducible refine (HH.out _ K.hb).mono ?_); rintro r9 w3 ⟨rfl, rfl⟩)))
      go_ret
      exact ⟨rfl, K.hb⟩
set_option maxHeartbeats 8000000 in
set_option maxRecDepth 20000 in
theorem poValid_any (F : Nat → Prop) (P : Po) (cz cs cb cq cd ch : Int) (a : Option Addr) (n c : Nat) (h k : Int) (w : World) (hl : FList w F a n c h k P) :
    Calls Try.prog 22 #[poV a n c h k, confV cz cs cb cq cd ch] w fun r w' => r = .returned (.bool (validP (decide (errN cz cs cb cq cd ch = 0)) (isN cz cs cb cq cd ch) P)) ∧ Below w.heap.size w w' := by
  have K := PBox.start w (poRow a n c h k) (confRow cz cs cb cq cd ch)
  have hR : validP (decide (errN cz cs cb cq cd ch = 0)) (isN cz cs cb cq cd ch) P = (decide (errN cz cs cb cq cd ch = 0) && freeOk (isN cz cs cb cq cd ch) P.free P.free.length && laneOk (isN cz cs cb cq cd ch) P.free P.host && laneOk (isN cz cs cb cq cd ch) P.free P.clean && (decide (P.host = -1) || !decide (P.host = P.clean))) := rfl
  rw [hR]
  obtain ⟨L, h0, k0⟩ := P
  obtain ⟨e1, e2, hf⟩ := hl
  simp only at e1 e2 hf
  subst e1 e2
  have HF := Lib.hid (fun W (q : Below w.heap.size w W) => poFree_any _ L cz cs cb cq cd ch a n c h0 k0 W (hf.same q))
  have HL1 := Lib.hid (fun W (q : Below w.heap.size w W) => poLane_any _ L cz cs cb cq cd ch h0 a n c h0 k0 W (hf.same q))
  have HL2 := Lib.hid (fun W (q : Below w.heap.size w W) => poLane_any _ L cz cs cb cq cd ch k0 a n c h0 k0 W (hf.same q))
  have HCK := Lib.hid (layCheck_any cz cs cb cq cd ch)
  simp only
  unfold confV at *
  generalize freeOk (isN cz cs cb cq cd ch) L L.length = b1 at *
  generalize laneOk (isN cz cs cb cq cd ch) L h0 = b2 at *
  generalize laneOk (isN cz cs cb cq cd ch) L k0 = b3 at *
  generalize errN cz cs cb cq cd ch = E at *
  generalize h0 = h at *
  generalize k0 = k at *
  clear hf hR
  have go : ∀ t0 t1 t2 : Bool, (E == 0) = t0 → (h == (-1 : Int)) = t1 → (h != k) = t2 → Calls Try.prog 22 #[poV a n c h k, .agg #[.int .i64 cz, .int .i64 cs, .int .i64 cb, .int .i64 cq, .int .i64 cd, .int .i64 ch]] w fun r w' => r = .returned (.bool (t0 && b1 && b2 && b3 && (t1 || t2))) ∧ Below w.heap.size w w' := by
    intro t0 t1 t2 q0 q1 q2
    cases t0
    · go_enter Try.func22, Try.ntmps22
      generalize hw0 : (w.alloc (poRow a n c h k)).alloc (confRow cz cs cb cq cd ch) = w0 at *
      go_wp2_with (first
        | ((with_reducible refine Plan.load_lit 26 (.tmp 3) (w.heap.size + 1) ?_ K.hc Try.underlying26 ?_ ?_ ?_); (· rfl); (· rfl); (· exact conf_info); simp only [Act.put, List.setIfInBounds_toArray, List.set_cons_zero, List.set_cons_succ])
        | (go_at_call 35; ((with_reducible refine (HCK.out _).mono ?_); rintro r9 w1 ⟨rfl, h1⟩; have K1 := K.on h1; clear K hw0 h1; have K := K1; clear K1; obtain ⟨v0, v1, v2⟩ := three_row K.hp))
        | ((with_reducible refine load_lit_gc 24 (.tmp 2) (w.heap.size) ?_ ?_ K.hp Try.underlying24 ?_ ?_ ?_); (· rfl); (· rfl); (· rfl); (· exact po_info); simp only [Act.put, List.setIfInBounds_toArray, List.set_cons_zero, List.set_cons_succ])
        | ((with_reducible refine load_lit_gc 26 (.tmp 3) (w.heap.size + 1) ?_ ?_ K.hc Try.underlying26 ?_ ?_ ?_); (· rfl); (· rfl); (· rfl); (· exact conf_info); simp only [Act.put, List.setIfInBounds_toArray, List.set_cons_zero, List.set_cons_succ])
        | (go_at_call 36; ((with_reducible refine (HF.out _ K.hb).mono ?_); rintro r9 w2 ⟨rfl, h1⟩; have K1 := K.on h1; clear K v0 v1 v2 h1; have K := K1; clear K1; obtain ⟨v0, v1, v2⟩ := three_row K.hp))
        | (go_at_call 37; ((with_reducible refine (HL1.out _ K.hb).mono ?_); rintro r9 w3 ⟨rfl, h1⟩; have K1 := K.on h1; clear K v0 v1 v2 h1; have K := K1; clear K1; obtain ⟨v0, v1, v2⟩ := three_row K.hp; clear HL1))
        | (go_at_call 37; ((with_reducible refine (HL2.out _ K.hb).mono ?_); rintro r9 w4 ⟨rfl, h1⟩; have K1 := K.on h1; clear K v0 v1 v2 h1; have K := K1; clear K1; obtain ⟨v0, v1, v2⟩ := three_row K.hp)))
      go_ret
      exact ⟨rfl, K.hb⟩
    cases b1
    · go_enter Try.func22, Try.ntmps22
      generalize hw0 : (w.alloc (poRow a n c h k)).alloc (confRow cz cs cb cq cd ch) = w0 at *
      go_wp2_with (first
        | ((with_reducible refine Plan.load_lit 26 (.tmp 3) (w.heap.size + 1) ?_ K.hc Try.underlying26 ?_ ?_ ?_); (· rfl); (· rfl); (· exact conf_info); simp only [Act.put, List.setIfInBounds_toArray, List.set_cons_zero, List.set_cons_succ])
        | (go_at_call 35; ((with_reducible refine (HCK.out _).mono ?_); rintro r9 w1 ⟨rfl, h1⟩; have K1 := K.on h1; clear K hw0 h1; have K := K1; clear K1; obtain ⟨v0, v1, v2⟩ := three_row K.hp))
        | ((with_reducible refine load_lit_gc 24 (.tmp 2) (w.heap.size) ?_ ?_ K.hp Try.underlying24 ?_ ?_ ?_); (· rfl); (· rfl); (· rfl); (· exact po_info); simp only [Act.put, List.setIfInBounds_toArray, List.set_cons_zero, List.set_cons_succ])
        | ((with_reducible refine load_lit_gc 26 (.tmp 3) (w.heap.size + 1) ?_ ?_ K.hc Try.underlying26 ?_ ?_ ?_); (· rfl); (· rfl); (· rfl); (· exact conf_info); simp only [Act.put, List.setIfInBounds_toArray, List.set_cons_zero, List.set_cons_succ])
        | (go_at_call 36; ((with_reducible refine (HF.out _ K.hb).mono ?_); rintro r9 w2 ⟨rfl, h1⟩; have K1 := K.on h1; clear K v0 v1 v2 h1; have K := K1; clear K1; obtain ⟨v0, v1, v2⟩ := three_row K.hp))
        | (go_at_call 37; ((with_reducible refine (HL1.out _ K.hb).mono ?_); rintro r9 w3 ⟨rfl, h1⟩; have K1 := K.on h1; clear K v0 v1 v2 h1; have K := K1; clear K1; obtain ⟨v0, v1, v2⟩ := three_row K.hp; clear HL1))
        | (go_at_call 37; ((with_reducible refine (HL2.out _ K.hb).mono ?_); rintro r9 w4 ⟨rfl, h1⟩; have K1 := K.on h1; clear K v0 v1 v2 h1; have K := K1; clear K1; obtain ⟨v0, v1, v2⟩ := three_row K.hp)))
      go_ret
      exact ⟨rfl, K.hb⟩
    cases b2
    · go_enter Try.func22, Try.ntmps22
      generalize hw0 : (w.alloc (poRow a n c h k)).alloc (confRow cz cs cb cq cd ch) = w0 at *
      go_wp2_with (first
        | ((with_reducible refine Plan.load_lit 26 (.tmp 3) (w.heap.size + 1) ?_ K.hc Try.underlying26 ?_ ?_ ?_); (· rfl); (· rfl); (· exact conf_info); simp only [Act.put, List.setIfInBounds_toArray, List.set_cons_zero, List.set_cons_succ])
        | (go_at_call 35; ((with_reducible refine (HCK.out _).mono ?_); rintro r9 w1 ⟨rfl, h1⟩; have K1 := K.on h1; clear K hw0 h1; have K := K1; clear K1; obtain ⟨v0, v1, v2⟩ := three_row K.hp))
        | ((with_reducible refine load_lit_gc 24 (.tmp 2) (w.heap.size) ?_ ?_ K.hp Try.underlying24 ?_ ?_ ?_); (· rfl); (· rfl); (· rfl); (· exact po_info); simp only [Act.put, List.setIfInBounds_toArray, List.set_cons_zero, List.set_cons_succ])
        | ((with_reducible refine load_lit_gc 26 (.tmp 3) (w.heap.size + 1) ?_ ?_ K.hc Try.underlying26 ?_ ?_ ?_); (· rfl); (· rfl); (· rfl); (· exact conf_info); simp only [Act.put, List.setIfInBounds_toArray, List.set_cons_zero, List.set_cons_succ])
        | (go_at_call 36; ((with_reducible refine (HF.out _ K.hb).mono ?_); rintro r9 w2 ⟨rfl, h1⟩; have K1 := K.on h1; clear K v0 v1 v2 h1; have K := K1; clear K1; obtain ⟨v0, v1, v2⟩ := three_row K.hp))
        | (go_at_call 37; ((with_reducible refine (HL1.out _ K.hb).mono ?_); rintro r9 w3 ⟨rfl, h1⟩; have K1 := K.on h1; clear K v0 v1 v2 h1; have K := K1; clear K1; obtain ⟨v0, v1, v2⟩ := three_row K.hp; clear HL1))
        | (go_at_call 37; ((with_reducible refine (HL2.out _ K.hb).mono ?_); rintro r9 w4 ⟨rfl, h1⟩; have K1 := K.on h1; clear K v0 v1 v2 h1; have K := K1; clear K1; obtain ⟨v0, v1, v2⟩ := three_row K.hp)))
      go_ret
      exact ⟨rfl, K.hb⟩
    cases b3
    · go_enter Try.func22, Try.ntmps22
      generalize hw0 : (w.alloc (poRow a n c h k)).alloc (confRow cz cs cb cq cd ch) = w0 at *
      go_wp2_with (first
        | ((with_reducible refine Plan.load_lit 26 (.tmp 3) (w.heap.size + 1) ?_ K.hc Try.underlying26 ?_ ?_ ?_); (· rfl); (· rfl); (· exact conf_info); simp only [Act.put, List.setIfInBounds_toArray, List.set_cons_zero, List.set_cons_succ])
        | (go_at_call 35; ((with_reducible refine (HCK.out _).mono ?_); rintro r9 w1 ⟨rfl, h1⟩; have K1 := K.on h1; clear K hw0 h1; have K := K1; clear K1; obtain ⟨v0, v1, v2⟩ := three_row K.hp))
        | ((with_reducible refine load_lit_gc 24 (.tmp 2) (w.heap.size) ?_ ?_ K.hp Try.underlying24 ?_ ?_ ?_); (· rfl); (· rfl); (· rfl); (· exact po_info); simp only [Act.put, List.setIfInBounds_toArray, List.set_cons_zero, List.set_cons_succ])
        | ((with_reducible refine load_lit_gc 26 (.tmp 3) (w.heap.size + 1) ?_ ?_ K.hc Try.underlying26 ?_ ?_ ?_); (· rfl); (· rfl); (· rfl); (· exact conf_info); simp only [Act.put, List.setIfInBounds_toArray, List.set_cons_zero, List.set_cons_succ])
        | (go_at_call 36; ((with_reducible refine (HF.out _ K.hb).mono ?_); rintro r9 w2 ⟨rfl, h1⟩; have K1 := K.on h1; clear K v0 v1 v2 h1; have K := K1; clear K1; obtain ⟨v0, v1, v2⟩ := three_row K.hp))
        | (go_at_call 37; ((with_reducible refine (HL1.out _ K.hb).mono ?_); rintro r9 w3 ⟨rfl, h1⟩; have K1 := K.on h1; clear K v0 v1 v2 h1; have K := K1; clear K1; obtain ⟨v0, v1, v2⟩ := three_row K.hp; clear HL1))
        | (go_at_call 37; ((with_reducible refine (HL2.out _ K.hb).mono ?_); rintro r9 w4 ⟨rfl, h1⟩; have K1 := K.on h1; clear K v0 v1 v2 h1; have K := K1; clear K1; obtain ⟨v0, v1, v2⟩ := three_row K.hp)))
      go_ret
      exact ⟨rfl, K.hb⟩
    cases t1
    · cases t2
      · go_enter Try.func22, Try.ntmps22
        generalize hw0 : (w.alloc (poRow a n c h k)).alloc (confRow cz cs cb cq cd ch) = w0 at *
        go_wp2_with (first
          | ((with_reducible refine Plan.load_lit 26 (.tmp 3) (w.heap.size + 1) ?_ K.hc Try.underlying26 ?_ ?_ ?_); (· rfl); (· rfl); (· exact conf_info); simp only [Act.put, List.setIfInBounds_toArray, List.set_cons_zero, List.set_cons_succ])
          | (go_at_call 35; ((with_reducible refine (HCK.out _).mono ?_); rintro r9 w1 ⟨rfl, h1⟩; have K1 := K.on h1; clear K hw0 h1; have K := K1; clear K1; obtain ⟨v0, v1, v2⟩ := three_row K.hp))
          | ((with_reducible refine load_lit_gc 24 (.tmp 2) (w.heap.size) ?_ ?_ K.hp Try.underlying24 ?_ ?_ ?_); (· rfl); (· rfl); (· rfl); (· exact po_info); simp only [Act.put, List.setIfInBounds_toArray, List.set_cons_zero, List.set_cons_succ])
          | ((with_reducible refine load_lit_gc 26 (.tmp 3) (w.heap.size + 1) ?_ ?_ K.hc Try.underlying26 ?_ ?_ ?_); (· rfl); (· rfl); (· rfl); (· exact conf_info); simp only [Act.put, List.setIfInBounds_toArray, List.set_cons_zero, List.set_cons_succ])
          | (go_at_call 36; ((with_reducible refine (HF.out _ K.hb).mono ?_); rintro r9 w2 ⟨rfl, h1⟩; have K1 := K.on h1; clear K v0 v1 v2 h1; have K := K1; clear K1; obtain ⟨v0, v1, v2⟩ := three_row K.hp))
          | (go_at_call 37; ((with_reducible refine (HL1.out _ K.hb).mono ?_); rintro r9 w3 ⟨rfl, h1⟩; have K1 := K.on h1; clear K v0 v1 v2 h1; have K := K1; clear K1; obtain ⟨v0, v1, v2⟩ := three_row K.hp; clear HL1))
          | (go_at_call 37; ((with_reducible refine (HL2.out _ K.hb).mono ?_); rintro r9 w4 ⟨rfl, h1⟩; have K1 := K.on h1; clear K v0 v1 v2 h1; have K := K1; clear K1; obtain ⟨v0, v1, v2⟩ := three_row K.hp)))
        go_ret
        exact ⟨rfl, K.hb⟩
      · go_enter Try.func22, Try.ntmps22
        generalize hw0 : (w.alloc (poRow a n c h k)).alloc (confRow cz cs cb cq cd ch) = w0 at *
        go_wp2_with (first
          | ((with_reducible refine Plan.load_lit 26 (.tmp 3) (w.heap.size + 1) ?_ K.hc Try.underlying26 ?_ ?_ ?_); (· rfl); (· rfl); (· exact conf_info); simp only [Act.put, List.setIfInBounds_toArray, List.set_cons_zero, List.set_cons_succ])
          | (go_at_call 35; ((with_reducible refine (HCK.out _).mono ?_); rintro r9 w1 ⟨rfl, h1⟩; have K1 := K.on h1; clear K hw0 h1; have K := K1; clear K1; obtain ⟨v0, v1, v2⟩ := three_row K.hp))
          | ((with_reducible refine load_lit_gc 24 (.tmp 2) (w.heap.size) ?_ ?_ K.hp Try.underlying24 ?_ ?_ ?_); (· rfl); (· rfl); (· rfl); (· exact po_info); simp only [Act.put, List.setIfInBounds_toArray, List.set_cons_zero, List.set_cons_succ])
          | ((with_reducible refine load_lit_gc 26 (.tmp 3) (w.heap.size + 1) ?_ ?_ K.hc Try.underlying26 ?_ ?_ ?_); (· rfl); (· rfl); (· rfl); (· exact conf_info); simp only [Act.put, List.setIfInBounds_toArray, List.set_cons_zero, List.set_cons_succ])
          | (go_at_call 36; ((with_reducible refine (HF.out _ K.hb).mono ?_); rintro r9 w2 ⟨rfl, h1⟩; have K1 := K.on h1; clear K v0 v1 v2 h1; have K := K1; clear K1; obtain ⟨v0, v1, v2⟩ := three_row K.hp))
          | (go_at_call 37; ((with_reducible refine (HL1.out _ K.hb).mono ?_); rintro r9 w3 ⟨rfl, h1⟩; have K1 := K.on h1; clear K v0 v1 v2 h1; have K := K1; clear K1; obtain ⟨v0, v1, v2⟩ := three_row K.hp; clear HL1))
          | (go_at_call 37; ((with_reducible refine (HL2.out _ K.hb).mono ?_); rintro r9 w4 ⟨rfl, h1⟩; have K1 := K.on h1; clear K v0 v1 v2 h1; have K := K1; clear K1; obtain ⟨v0, v1, v2⟩ := three_row K.hp)))
        go_ret
        exact ⟨rfl, K.hb⟩
    · go_enter Try.func22, Try.ntmps22
      generalize hw0 : (w.alloc (poRow a n c h k)).alloc (confRow cz cs cb cq cd ch) = w0 at *
      go_wp2_with (first
        | ((with_reducible refine Plan.load_lit 26 (.tmp 3) (w.heap.size + 1) ?_ K.hc Try.underlying26 ?_ ?_ ?_); (· rfl); (· rfl); (· exact conf_info); simp only [Act.put, List.setIfInBounds_toArray, List.set_cons_zero, List.set_cons_succ])
        | (go_at_call 35; ((with_reducible refine (HCK.out _).mono ?_); rintro r9 w1 ⟨rfl, h1⟩; have K1 := K.on h1; clear K hw0 h1; have K := K1; clear K1; obtain ⟨v0, v1, v2⟩ := three_row K.hp))
        | ((with_reducible refine load_lit_gc 24 (.tmp 2) (w.heap.size) ?_ ?_ K.hp Try.underlying24 ?_ ?_ ?_); (· rfl); (· rfl); (· rfl); (· exact po_info); simp only [Act.put, List.setIfInBounds_toArray, List.set_cons_zero, List.set_cons_succ])
        | ((with_reducible refine load_lit_gc 26 (.tmp 3) (w.heap.size + 1) ?_ ?_ K.hc Try.underlying26 ?_ ?_ ?_); (· rfl); (· rfl); (· rfl); (· exact conf_info); simp only [Act.put, List.setIfInBounds_toArray, List.set_cons_zero, List.set_cons_succ])
        | (go_at_call 36; ((with_reducible refine (HF.out _ K.hb).mono ?_); rintro r9 w2 ⟨rfl, h1⟩; have K1 := K.on h1; clear K v0 v1 v2 h1; have K := K1; clear K1; obtain ⟨v0, v1, v2⟩ := three_row K.hp))
        | (go_at_call 37; ((with_reducible refine (HL1.out _ K.hb).mono ?_); rintro r9 w3 ⟨rfl, h1⟩; have K1 := K.on h1; clear K v0 v1 v2 h1; have K := K1; clear K1; obtain ⟨v0, v1, v2⟩ := three_row K.hp; clear HL1))
        | (go_at_call 37; ((with_reducible refine (HL2.out _ K.hb).mono ?_); rintro r9 w4 ⟨rfl, h1⟩; have K1 := K.on h1; clear K v0 v1 v2 h1; have K := K1; clear K1; obtain ⟨v0, v1, v2⟩ := three_row K.hp)))
      go_ret
      exact ⟨rfl, K.hb⟩
  have := go _ _ _ rfl rfl rfl
  rw [show decide (E = 0) = (E == 0) from rfl, show decide (h = -1) = (h == (-1 : Int)) from rfl, show (!decide (h = k)) = (h != k) from rfl]
  exact this
end Go.Proofs.Ytjdlekjikemdpaa.Ents
