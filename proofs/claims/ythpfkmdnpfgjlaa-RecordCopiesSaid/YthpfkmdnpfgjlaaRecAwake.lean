/- The sanity check of the record's laws: a record that is written and read. -/
import Derived.Test.YthpfkmdnpfgjlaaRecCopy
namespace Go.Proofs.Ythpfkmdnpfgjlaa
open Go.RowKit Plan

theorem recV_mk (k b v m : Int) (p : ByteArray) : recV (mk k b v m p) = #[.int .i64 k, .int .i64 b, .int .i64 v, .int .i64 m, .string p] := by
  simp only [recV, mk]
/-- what is written is read -/
theorem decode_enc (r : RecMath.Rec) (h : RecMath.checkE r = 0) (w : World) :
    Calls Try.prog 15 #[.string ⟨(RecMath.encL r).toArray⟩] w fun e w' => e = .returned (.tuple #[.agg (recV r), .int .i64 0]) ∧ Below w.heap.size w w' := by
  have := decode_any ⟨(RecMath.encL r).toArray⟩ w
  rwa [toList_mk, (RecMath.dec_enc h).1, (RecMath.dec_enc h).2] at this
theorem awake_ok : RecMath.checkE (mk 2 3 7 0 ⟨#[]⟩) = 0 := by rw [check_eq]; decide
theorem awake_size : (⟨(RecMath.encL (mk 2 3 7 0 ⟨#[]⟩)).toArray⟩ : ByteArray).size = 40 := by rw [size_bytes, RecMath.enc_length awake_ok]
theorem awake_head : ((⟨(RecMath.encL (mk 2 3 7 0 ⟨#[]⟩)).toArray⟩ : ByteArray).extract 0 9).toList = [90, 65, 2, 0, 3, 0, 0, 0, 7] := by
  rw [ByteArray.toList_eq, ext_list, toList_mk, RecMath.encL, if_pos awake_ok, RecMath.sealL]
  have hl : (RecMath.body (mk 2 3 7 0 ⟨#[]⟩)).length = 36 := RecMath.body_length (by rw [mk_len]; decide)
  rw [List.drop_zero, List.take_append_of_le_length (by omega)]
  decide
/-- the cells of a record that lies in memory -/
theorem row5 {w : World} {g : Nat} {a b c d e : Value} {t : TypeId} {fr : Nat × Nat} (h : w.heap[g]? = some (.cells #[a, b, c, d, e] t fr)) :
    g < w.heap.size ∧ w.cell? ⟨g, 0, none⟩ = some a ∧ w.cell? ⟨g, 1, none⟩ = some b ∧ w.cell? ⟨g, 2, none⟩ = some c ∧ w.cell? ⟨g, 3, none⟩ = some d ∧ w.cell? ⟨g, 4, none⟩ = some e :=
  ⟨(Array.getElem?_eq_some_iff.1 h).1, cell_of_row _ _ 0 _ _ _ h, cell_of_row _ _ 1 _ _ _ h, cell_of_row _ _ 2 _ _ _ h, cell_of_row _ _ 3 _ _ _ h, cell_of_row _ _ 4 _ _ _ h⟩
set_option maxHeartbeats 1000000 in
theorem recAwake (w : World) : Calls Try.prog 8 #[] w fun e w' => e = .returned (.bool true) ∧ Below w.heap.size w w' := by
  have he := encode_any 2 3 7 0 ⟨#[]⟩
  have hd := decode_enc _ awake_ok
  rw [awake_ok] at he
  rw [recV_mk] at hd
  have h40 := awake_size
  have h9 := awake_head
  generalize (⟨(RecMath.encL (mk 2 3 7 0 ⟨#[]⟩)).toArray⟩ : ByteArray) = SB at *
  have b9 : (9 : Int) ≤ (SB.size : Int) := by omega
  have HE := Lib.hid he
  have HD := Lib.hid hd
  clear he hd
  go_enter Try.func8, Try.ntmps8
  go_wp2_with (first
    | (go_at_call 9; ((with_reducible refine (HE.out _).mono ?_); rintro e w1 ⟨rfl, hb1⟩; have hr1 := heap_old hb1 (g := w.heap.size) (by simp) (heap_alloc_new w _)))
    | (go_at_call 15; ((with_reducible refine (HD.out _).mono ?_); rintro e w2 ⟨rfl, hb2⟩; have hr2 := heap_old hb2 (g := w.heap.size) (by have := hb1.size; simp at this; omega) hr1; obtain ⟨hz, c0, c1, c2, c3, c4⟩ := row5 hr2)))
  go_ret
  exact ⟨rfl, ((((Below.refl _ _).alloc (Nat.le_refl _) _).trans (hb1.mono (by simp))).trans (hb2.mono (by have := hb1.size; simp at this; omega))).alloc (by omega) _⟩
end Go.Proofs.Ythpfkmdnpfgjlaa
