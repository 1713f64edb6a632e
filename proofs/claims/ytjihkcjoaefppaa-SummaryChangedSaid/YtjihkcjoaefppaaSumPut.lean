/- The walks of the program's put and of its closure: a sector more. -/
import Derived.Test.YtjihkcjoaefppaaSumExact
import Derived.Test.YtjihkcjoaefppaaBaseLast
import Derived.OneCell
namespace Go.Proofs.Ytjihkcjoaefppaa
open Go.RowKit Plan

set_option maxHeartbeats 1000000 in
theorem sumPut_any (n k : Int) (w : World) :
    Calls Try.prog 22 #[.int .i64 n, .int .i64 k] w fun e w' => e = .returned (.string ⟨(CodecMath.putL n k).toArray⟩) ∧ Below w.heap.size w w' := by
  have hp := put_any n k
  generalize (⟨(CodecMath.putL n k).toArray⟩ : ByteArray) = P at hp ⊢
  generalize CodecMath.putE n k = E at hp
  have HP := Lib.hid hp
  clear hp
  go_enter Try.func22, Try.ntmps22
  go_wp2_with (go_at_call 30; ((with_reducible refine (HP.out _).mono ?_); rintro e w1 ⟨rfl, hb1⟩))
  go_ret
  exact ⟨rfl, hb1⟩

/-- the boxes of the closure -/
structure Boxes (w : World) (p q r : Nat) (l g : Int) (c : Nat) : Prop where
  p : w.heap[p]? = some (.cells #[.int .i64 l] 3 (0, 0))
  q : w.heap[q]? = some (.cells #[.int .i64 g] 3 (0, 0))
  r : w.heap[r]? = some (.cells #[.int .u32 (c : Int)] 41 (0, 0))
theorem Boxes.on {w w' : World} {p q r : Nat} {l g : Int} {c : Nat} (h : Boxes w p q r l g c) (hb : Below w.heap.size w w') : Boxes w' p q r l g c :=
  ⟨row_on hb h.p (lt_of_block h.p), row_on hb h.q (lt_of_block h.q), row_on hb h.r (lt_of_block h.r)⟩
theorem Boxes.al {w : World} {p q r : Nat} {l g : Int} {c : Nat} (h : Boxes w p q r l g c) (o : Obj) : Boxes (w.alloc o) p q r l g c :=
  ⟨row_al h.p o, row_al h.q o, row_al h.r o⟩

set_option maxHeartbeats 1000000 in
set_option maxRecDepth 20000 in
theorem step_any (B p q r : Nat) (hB : B ≤ p) (hpq : p < q) (hqr : q < r) (l g v : Int) (c : Nat) (hc : c < 4294967296) (s : ByteArray) (hs : 36 ≤ s.size) (w : World) (h : Boxes w p q r l g c) :
    Calls Try.prog 20 #[.string s, .int .i64 v, .pointer (some ⟨p, 0, none⟩), .pointer (some ⟨q, 0, none⟩), .pointer (some ⟨r, 0, none⟩)] w fun e w' =>
      e = .returned (.tuple #[]) ∧ Boxes w' p q r (min l v) (max g v) (CrcMath.crc c (s.data.toList.take 36)) ∧ Below B w w' := by
  have c1 := cell_of_one h.p
  have f1 := free_of_one h.p
  have c2 := cell_of_one h.q
  have f2 := free_of_one h.q
  have c3 := cell_of_one h.r
  have hadd := add_any c (s.extract 0 36) hc (by rw [← size_list, ext_36, List.length_take, size_list]; unfold maxLen; omega)
  rw [ext_36] at hadd
  have HA := Lib.hid hadd
  have H := Lib.hid h
  clear hadd
  go_enter Try.func20, Try.ntmps20
  go_wp2_with fail
  have hW : Boxes ((w.setCell ⟨p, 0, none⟩ (.int .i64 (min l v))).setCell ⟨q, 0, none⟩ (.int .i64 (max g v))) p q r (min l v) (max g v) c := by
    refine ⟨?_, one_setCell ((Below.heap_setCell _ _ _ _ (by show q ≠ p; omega)).trans h.q), ?_⟩
    · exact (Below.heap_setCell _ _ _ _ (by show p ≠ q; omega)).trans (one_setCell h.p)
    · exact (Below.heap_setCell _ _ _ _ (by show r ≠ q; omega)).trans ((Below.heap_setCell _ _ _ _ (by show r ≠ p; omega)).trans h.r)
  have bW : Below B w ((w.setCell ⟨p, 0, none⟩ (.int .i64 (min l v))).setCell ⟨q, 0, none⟩ (.int .i64 (max g v))) :=
    ((Below.refl B w).setCell (by show B ≤ p; omega) _).setCell (by show B ≤ q; omega) _
  clear c1 f1 c2 f2 c3
  clear H h
  generalize ((w.setCell ⟨p, 0, none⟩ (.int .i64 (min l v))).setCell ⟨q, 0, none⟩ (.int .i64 (max g v))) = W at hW bW ⊢
  have c3 := cell_of_one hW.r
  have hr := lt_of_block hW.r
  have hs' : (36 : Int) ≤ (s.size : Int) := by omega
  refine Last.start (Held W.heap.size W) [(0, true), (1, true), (2, true), (3, false), (4, false)] (by kernel_rfl) (by kernel_rfl) (by kernel_rfl) (by kernel_rfl) held_same ?_
  simp only [List.map_cons, List.map_nil, List.getElem?_toArray, List.getElem?_cons_zero, List.getElem?_cons_succ]
  have hS0 : Held W.heap.size W W.drew := held_same
  repeat (first | (refine Last.take ?_ (by rfl) ?_ ?_; rotate_left; (· rintro w9 ⟨hS9, -⟩; go_simp; (try rw [if_neg (by omega)]); all_goals (with_reducible rfl)); simp only [Act.put, List.setIfInBounds_toArray, List.set_cons_zero, List.set_cons_succ]) | (refine Last.pass (by rfl) ?_; simp only [Act.put, List.setIfInBounds_toArray, List.set_cons_zero, List.set_cons_succ]))
  refine Last.call (by rfl) 21 _ ?_ (HA.out _) ?_
  · go_simp
  rintro e w4 ⟨rfl, hb4⟩
  have hSw4 := held_call (Nat.le_refl _) hS0 hb4
  refine ⟨_, rfl, hSw4, ?_⟩
  simp only [Act.put, List.setIfInBounds_toArray, List.set_cons_zero, List.set_cons_succ]
  have h4 := hW.on hSw4.2
  have f4 := free_of_one h4.r
  have c4 := cell_of_one h4.r
  refine Last.last (by rfl) ?_
  go_simp
  go_end0
  refine ⟨rfl, ⟨?_, ?_, one_setCell h4.r⟩, (bW.trans (hSw4.2.mono (show B ≤ W.heap.size by omega))).setCell (by show B ≤ r; omega) _⟩
  · exact (Below.heap_setCell _ _ _ _ (by show p ≠ r; omega)).trans h4.p
  · exact (Below.heap_setCell _ _ _ _ (by show q ≠ r; omega)).trans h4.q
end Go.Proofs.Ytjihkcjoaefppaa
