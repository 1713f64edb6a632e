/- The walks of Pad: the program's, by the library's Repeat and Join, and the document's own, for any bytes and a length of at most 2^31 - 1. -/
import Derived.Test.YtjihkcjoaefppaaCodecGet
import Derived.Test.YtjihkcjoaefppaaShelf
namespace Go.Proofs.Ytjihkcjoaefppaa
open Go.RowKit

/-- bytes 0 behind l, n bytes in all -/
def padL (l : List UInt8) (n : Nat) : List UInt8 := l ++ List.replicate (n - l.length) 0
theorem size_list (s : ByteArray) : s.data.toList.length = s.size := by simp
theorem padL_same (s : ByteArray) (n : Nat) (h : n ≤ s.size) : (⟨(padL s.data.toList n).toArray⟩ : ByteArray) = s := by
  rw [padL, size_list, Nat.sub_eq_zero_of_le h]; simp
theorem zeros_size (c : Nat) : (⟨(List.replicate c (0 : UInt8)).toArray⟩ : ByteArray).size = c := by
  show (List.replicate c (0 : UInt8)).toArray.size = c
  simp
theorem repeat_zero (c : Nat) (w : World) (hc : c ≤ 2147483647) :
    Calls Try.prog 55 #[.string ⟨#[0]⟩, .int .i64 c] w fun e w' => e = .returned (.string ⟨(List.replicate c (0 : UInt8)).toArray⟩) ∧ Below w.heap.size w w' := by
  have h := Try.strings_Repeat ⟨#[0]⟩ c w (by omega) (by show 1 * c ≤ _; omega)
  have e : Lib.repeatL [(0 : UInt8)] c = List.replicate c 0 := by
    have := Lib.repeatL_replicate 0 1 c
    rwa [Nat.mul_one] at this
  rw [show (⟨#[0]⟩ : ByteArray).data.toList = [0] from rfl, e] at h
  exact h
theorem join_new (a b : ByteArray) (w : World) (hab : a.size + b.size ≤ 140737488355328) :
    Calls Try.prog 54 #[.slice (some ⟨w.heap.size, 0, none⟩) 2 2] (w.alloc (.cells #[.string a, .string b] 9)) fun e w' => e = .returned (.string ⟨(a.data.toList ++ b.data.toList).toArray⟩) ∧ Below w.heap.size w w' := by
  have hj := Try.strings_Join w.heap.size 0 2 [a, b] ⟨#[]⟩ (w.alloc (.cells #[.string a, .string b] 9)) (by
    intro j x hx
    rw [Nat.zero_add, cell_of_row _ _ j _ _ _ (heap_alloc_new w _)]
    match j with
    | 0 => simp at hx; subst hx; rfl
    | 1 => simp at hx; subst hx; rfl
    | j + 2 => simp at hx) (by simp) (by simp) (by simp) (by
    rw [show Lib.join (List.map (fun x => x.data.toList) [a, b]) [] = a.data.toList ++ b.data.toList by simp [Lib.join, List.intercalate]]
    rw [List.length_append, size_list, size_list]; exact hab)
  rw [show Lib.join (List.map (fun (x : ByteArray) => x.data.toList) [a, b]) (⟨#[]⟩ : ByteArray).data.toList = a.data.toList ++ b.data.toList by simp [Lib.join, List.intercalate]] at hj
  have hj2 : Calls Try.prog 44 #[.slice (some ⟨w.heap.size, 0, none⟩) 2 2, .string ⟨#[]⟩] (w.alloc (.cells #[.string a, .string b] 9)) fun e w' => e = .returned (.string ⟨(a.data.toList ++ b.data.toList).toArray⟩) ∧ Below w.heap.size w w' :=
    hj.mono fun e w' hh => ⟨hh.1, ((Below.refl _ w).alloc (Nat.le_refl _) _).trans (hh.2.mono (by simp))⟩
  clear hj hab
  have H := Lib.hid hj2
  clear hj2
  generalize a.data.toList ++ b.data.toList = l at H ⊢
  go_enter Try.func54, Try.ntmps54
  go_wp2_with (go_at_call 44; ((with_reducible refine H.out.mono ?_); rintro e w1 ⟨rfl, hb1⟩))
  go_ret
  exact ⟨rfl, hb1⟩
theorem pad_more (s : ByteArray) (n : Nat) (w : World) (hs : s.size < n) (hn : n ≤ 2147483647) :
    Calls Try.prog 49 #[.string s, .int .i64 n] w fun e w' => e = .returned (.string ⟨(padL s.data.toList n).toArray⟩) ∧ Below w.heap.size w w' := by
  have hd : decide ((2147483647 : Int) < n) = false := by simp; omega
  have hr : ∀ w, Calls Try.prog 55 #[.string ⟨#[0]⟩, .int .i64 ((n : Int) - s.size)] w fun e w' => e = .returned (.string ⟨(List.replicate (n - s.size) (0 : UInt8)).toArray⟩) ∧ Below w.heap.size w w' := fun w => by
    have e : ((n : Int) - s.size) = ((n - s.size : Nat) : Int) := by omega
    rw [e]; exact repeat_zero (n - s.size) w (by omega)
  have hz := zeros_size (n - s.size)
  have he : padL s.data.toList n = s.data.toList ++ (⟨(List.replicate (n - s.size) (0 : UInt8)).toArray⟩ : ByteArray).data.toList := by rw [padL, size_list]
  rw [he]
  clear he
  generalize (⟨(List.replicate (n - s.size) (0 : UInt8)).toArray⟩ : ByteArray) = Z at hr hz ⊢
  have hj := fun w => join_new s Z w (by omega)
  have HR := Lib.hid hr
  have HJ := Lib.hid hj
  clear hr hj hz
  go_enter Try.func49, Try.ntmps49
  go_wp2_with (first | (go_at_call 55; ((with_reducible refine (HR.out _).mono ?_); rintro e w1 ⟨rfl, hb1⟩)) | (go_at_call 54; ((with_reducible refine (HJ.out _).mono ?_); rintro e w2 ⟨rfl, hb2⟩)))
  go_ret
  exact ⟨rfl, hb1.trans (hb2.mono hb1.size)⟩
theorem refPad_more (s : ByteArray) (n : Nat) (w : World) (hs : s.size < n) (hn : n ≤ 2147483647) :
    Calls Try.prog 35 #[.string s, .int .i64 n] w fun e w' => e = .returned (.string ⟨(padL s.data.toList n).toArray⟩) ∧ Below w.heap.size w w' := by
  have hmk : ∀ w, (Instr.makeSlice 56 (.int .i64 ((n : Int) - s.size)) (.int .i64 ((n : Int) - s.size))).run Try.prog w = .ok (.slice (some ⟨w.heap.size, 0, none⟩) (n - s.size) (n - s.size)) (w.alloc (.cells (madeCells #[.int .u8 0] (n - s.size)) 5)) := fun w => by
    have e : ((n : Int) - s.size) = ((n - s.size : Nat) : Int) := by omega
    rw [e]
    exact run_make_row' (P := Try.prog) 56 5 (.int .u8 0) 1 Try.underlying56 info_byte rfl .i64 .i64 (n - s.size) (by omega) (by omega) w
  have hcv : ∀ w : World, (convert 56 9 (.slice (some ⟨w.heap.size, 0, none⟩) (n - s.size) (n - s.size))).run Try.prog (w.alloc (.cells (madeCells #[.int .u8 0] (n - s.size)) 5)) = .ok (.string ⟨(List.replicate (n - s.size) (0 : UInt8)).toArray⟩) (w.alloc (.cells (madeCells #[.int .u8 0] (n - s.size)) 5)) := fun w => by
    have h1 := run_convert_bytes_back (P := Try.prog) (w.alloc (.cells (madeCells #[.int .u8 0] (n - s.size)) 5)) 56 9 5 ⟨w.heap.size, 0, none⟩ (n - s.size) (List.replicate (n - s.size) 0) Try.underlying56 Try.underlying5 Try.underlying9 (fun j hj => by
      have hj' : j < n - s.size := by simpa using hj
      have e : (⟨w.heap.size, 0, none⟩ : Addr).add j = ⟨w.heap.size, j, none⟩ := by unfold Addr.add; split <;> simp_all
      rw [e, (World.rowIs_made w (.int .u8 0) (n - s.size) 5).cell hj']
      simp)
    rwa [List.length_replicate] at h1
  have he : (⟨(padL s.data.toList n).toArray⟩ : ByteArray) = s ++ (⟨(List.replicate (n - s.size) (0 : UInt8)).toArray⟩ : ByteArray) := by
    rw [padL, size_list]
    apply ByteArray.ext
    simp
  rw [he]
  clear he
  have hz := zeros_size (n - s.size)
  generalize (⟨(List.replicate (n - s.size) (0 : UInt8)).toArray⟩ : ByteArray) = Z at hcv hz ⊢
  have hsum : s.size + Z.size ≤ 9223372036854775807 := by omega
  clear hz
  go_enter Try.func35, Try.ntmps35
  go_wp2
  go_ret
  exact ⟨rfl, (Below.refl _ _).alloc (Nat.le_refl _) _⟩
theorem pad_same (s : ByteArray) (n : Nat) (w : World) (h : n ≤ s.size) :
    Calls Try.prog 49 #[.string s, .int .i64 n] w fun e w' => e = .returned (.string s) ∧ Below w.heap.size w w' := by
  go_enter Try.func49, Try.ntmps49
  go_wp2
  go_ret
  exact ⟨rfl, Below.refl _ _⟩
theorem refPad_same (s : ByteArray) (n : Nat) (w : World) (h : n ≤ s.size) :
    Calls Try.prog 35 #[.string s, .int .i64 n] w fun e w' => e = .returned (.string s) ∧ Below w.heap.size w w' := by
  go_enter Try.func35, Try.ntmps35
  go_wp2
  go_ret
  exact ⟨rfl, Below.refl _ _⟩
/-- Pad, for any bytes and any length up to 2^31 - 1 -/
theorem pad_any (s : ByteArray) (n : Nat) (w : World) (hn : n ≤ 2147483647) :
    Calls Try.prog 49 #[.string s, .int .i64 n] w fun e w' => e = .returned (.string ⟨(padL s.data.toList n).toArray⟩) ∧ Below w.heap.size w w' := by
  by_cases h : n ≤ s.size
  · rw [padL_same s n h]; exact pad_same s n w h
  · exact pad_more s n w (by omega) hn
theorem refPad_any (s : ByteArray) (n : Nat) (w : World) (hn : n ≤ 2147483647) :
    Calls Try.prog 35 #[.string s, .int .i64 n] w fun e w' => e = .returned (.string ⟨(padL s.data.toList n).toArray⟩) ∧ Below w.heap.size w w' := by
  by_cases h : n ≤ s.size
  · rw [padL_same s n h]; exact refPad_same s n w h
  · exact refPad_more s n w (by omega) hn
end Go.Proofs.Ytjihkcjoaefppaa
