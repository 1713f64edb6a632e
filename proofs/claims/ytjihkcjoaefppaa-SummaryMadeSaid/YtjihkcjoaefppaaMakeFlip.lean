/- The walk of the maker's flip: one bit of a string is changed. -/
import Derived.Test.YtjihkcjoaefppaaBaseBytes
import Derived.Test.YtjihkcjoaefppaaBaseLast
namespace Go.Proofs.Ytjihkcjoaefppaa
open Go.RowKit

/-- the bytes with one bit changed -/
def flipL (l : List UInt8) (at' bit : Int) : List UInt8 := l.modify (at' % (l.length : Int)).toNat (fun c => c ^^^ UInt8.ofNat (2 ^ ((bit % 8).toNat % 8)))
theorem flipL_eq (l : List UInt8) (at' bit : Int) (j k : Nat) (hj : at' % (l.length : Int) = (j : Int)) (hk : bit % 8 = (k : Int)) (h : j < l.length) : flipL l at' bit = l.set j (l[j] ^^^ UInt8.ofNat (2 ^ (k % 8))) := by
  unfold flipL
  rw [hj, hk, Int.toNat_natCast, Int.toNat_natCast]
  apply List.ext_getElem
  · simp
  · intro i h1 h2
    rw [List.getElem_modify, List.getElem_set]
    by_cases e : j = i
    · subst e; simp
    · simp [e]
theorem flip_val (c : UInt8) (k : Nat) (hk : k < 8) : bits .xor .u8 (c.toNat : Int) ((2 : Int) ^ k % 256) = ((c ^^^ UInt8.ofNat (2 ^ (k % 8))).toNat : Int) := by
  have := bit_val c k
  rwa [Nat.mod_eq_of_lt hk] at this ⊢
theorem shift_fin : ∀ k : Fin 8, IntKind.u8.wrap (2 ^ min (IntKind.u64.wrap ((k.val : Nat) : Int)).toNat 8) = (2 : Int) ^ k.val % 256 := by decide
theorem shift_val (k : Nat) (hk : k < 8) : IntKind.u8.wrap (2 ^ min (IntKind.u64.wrap (k : Int)).toNat 8) = (2 : Int) ^ k % 256 := shift_fin ⟨k, hk⟩
set_option maxHeartbeats 1000000 in
theorem flip_any (s : ByteArray) (at' bit : Int) (h0 : 0 < s.size) (h1 : s.size ≤ 1000000) (w : World) :
    Calls Try.prog 17 #[.string s, .int .i64 at', .int .i64 bit] w fun e w' => e = .returned (.string ⟨(flipL s.data.toList at' bit).toArray⟩) ∧ Below w.heap.size w w' := by
  obtain ⟨j, hj1, hj2⟩ : ∃ j : Nat, at' % (s.size : Int) = (j : Int) ∧ j < s.size := ⟨(at' % (s.size : Int)).toNat, by have := Int.emod_nonneg at' (b := (s.size : Int)) (by omega); omega, by have := Int.emod_lt_of_pos at' (b := (s.size : Int)) (by omega); have := Int.emod_nonneg at' (b := (s.size : Int)) (by omega); omega⟩
  obtain ⟨k, hk1, hk2⟩ : ∃ k : Nat, bit % 8 = (k : Int) ∧ k < 8 := ⟨(bit % 8).toNat, by omega, by omega⟩
  have hm1 : ∀ w, Calls Try.prog 13 #[.int .i64 at', .int .i64 (s.size : Int)] w fun e w' => e = .returned (.int .i64 (j : Int)) ∧ w = w' := fun w => by
    rw [← hj1]; exact mod_any at' s.size (by omega) (by omega) w
  have hm2 : ∀ w, Calls Try.prog 13 #[.int .i64 bit, .int .i64 8] w fun e w' => e = .returned (.int .i64 (k : Int)) ∧ w = w' := fun w => by
    rw [← hk1]; exact mod_any bit 8 (by decide) (by decide) w
  have hl : s.data.toList.length = s.size := by simp
  have hjl : j < s.data.toList.length := by rw [hl]; exact hj2
  have hr := flipL_eq s.data.toList at' bit j k (by rw [hl]; exact hj1) hk1 hjl
  have hne : s.toList.isEmpty = false := by
    rw [ByteArray.toList_eq]
    cases hq : s.data.toList with
    | nil => exfalso; rw [hq] at hl; simp at hl; omega
    | cons => rfl
  rw [hr]
  have hbv := Lib.hid (flip_val (s.data.toList[j]'hjl) k hk2)
  have HM1 := Lib.hid hm1
  have HM2 := Lib.hid hm2
  have hji : (j : Int) < (s.size : Int) := by omega
  clear hm1 hm2 hr hj1 hk1 hl
  have hconv := fun w => run_bytes_of_string (P := Try.prog) w 9 56 5 s Try.underlying9 Try.underlying56 Try.underlying5
  go_enter Try.func17, Try.ntmps17
  go_wp2_with fail
  have hin := InRow.start s (Below.refl w.heap.size w) (grownCap w s.size 0 5)
  have hw : (w.drew.alloc (.cells (bytesRow s (grownCap w s.size 0 5)) 5 ((bytesRow s (grownCap w s.size 0 5)).size, (bytesRow s (grownCap w s.size 0 5)).size + 1))) = (w.alloc (.cells (bytesRow s (grownCap w s.size 0 5)) 5 ((bytesRow s (grownCap w s.size 0 5)).size, (bytesRow s (grownCap w s.size 0 5)).size + 1))).drew := rfl
  rw [hw] at hin
  clear hw hconv
  generalize (w.alloc (.cells (bytesRow s (grownCap w s.size 0 5)) 5 ((bytesRow s (grownCap w s.size 0 5)).size, (bytesRow s (grownCap w s.size 0 5)).size + 1))).drew = W at hin ⊢
  have hc := hin.cell j hjl
  have hf := hin.free j hjl
  refine Last.start (fun w' => w' = W.drew) [(0, true), (1, true), (2, true), (3, true), (7, true), (4, false), (5, true), (6, true), (8, false), (9, true), (10, true), (11, true), (12, true), (13, false)] (by kernel_rfl) (by kernel_rfl) (by kernel_rfl) (by kernel_rfl) rfl ?_
  simp only [List.map_cons, List.map_nil, List.getElem?_toArray, List.getElem?_cons_zero, List.getElem?_cons_succ]
  repeat (first | (refine Last.take ?_ (by rfl) ?_ ?_; rotate_left; (· rintro w9 rfl; go_simp; (try rw [if_neg (by omega)]); all_goals (with_reducible rfl)); simp only [Act.put, List.setIfInBounds_toArray, List.set_cons_zero, List.set_cons_succ]))
  refine Last.call (by rfl) 13 _ ?_ (HM1.out _) ?_
  · go_simp
  rintro e w1 ⟨rfl, rfl⟩
  refine ⟨_, rfl, rfl, ?_⟩
  simp only [Act.put, List.setIfInBounds_toArray, List.set_cons_zero, List.set_cons_succ]
  repeat (first | (refine Last.take ?_ (by rfl) ?_ ?_; rotate_left; (· rintro w9 rfl; go_simp; (try rw [if_neg (by omega)]); all_goals (with_reducible rfl)); simp only [Act.put, List.setIfInBounds_toArray, List.set_cons_zero, List.set_cons_succ]))
  refine Last.call (by rfl) 13 _ ?_ (HM2.out _) ?_
  · go_simp
  rintro e w1 ⟨rfl, rfl⟩
  refine ⟨_, rfl, rfl, ?_⟩
  simp only [Act.put, List.setIfInBounds_toArray, List.set_cons_zero, List.set_cons_succ]
  repeat (first | (refine Last.take ?_ (by rfl) ?_ ?_; rotate_left; (· rintro w9 rfl; go_simp; (try rw [if_neg (by omega)]); all_goals (with_reducible rfl)); simp only [Act.put, List.setIfInBounds_toArray, List.set_cons_zero, List.set_cons_succ]))
  refine Last.last (by rfl) ?_
  go_simp
  have hval : bits .xor .u8 (s.data[j].toNat : Int) (IntKind.u8.wrap (2 ^ min (IntKind.u64.wrap (k : Int)).toNat 8)) = ((s.data.toList[j] ^^^ UInt8.ofNat (2 ^ (k % 8))).toNat : Int) := by
    rw [shift_val k hk2]; exact hbv.out
  rw [hval]
  have hin2 := hin.store j (s.data.toList[j] ^^^ UInt8.ofNat (2 ^ (k % 8)))
  have hback := hin2.back (n := s.size) (by simp) (Below.refl _ _).drew (grownCap w s.size 0 5)
  have hb9 : Below w.heap.size w (W.setCell ⟨w.heap.size, j, none⟩ (.int .u8 ((s.data.toList[j] ^^^ UInt8.ofNat (2 ^ (k % 8))).toNat : Int))).drew := by obtain ⟨_, _, _, _, hb, _⟩ := hin2; exact hb.drew
  clear hin hin2 hc hf hval
  generalize (W.setCell ⟨w.heap.size, j, none⟩ (.int .u8 ((s.data.toList[j] ^^^ UInt8.ofNat (2 ^ (k % 8))).toNat : Int))).drew = W2 at hback hb9 ⊢
  generalize hZ : (⟨(s.data.toList.set j (s.data.toList[j] ^^^ UInt8.ofNat (2 ^ (k % 8)))).toArray⟩ : ByteArray) = Z at hback
  have HZ := Lib.hid hZ
  clear hZ
  go_wp2
  go_ret
  exact ⟨by rw [HZ.out]; rfl, hb9⟩
end Go.Proofs.Ytjihkcjoaefppaa
