
/- The walk of the document's Same, for equal lists. -/
import Derived.Test.YtbaclgedohpibaaEntDrop
namespace Go.Proofs.Ytbaclgedohpibaa.Ents
open Go.RowKit Plan EntMath
set_option maxHeartbeats 2000000 in
set_option maxRecDepth 20000 in
theorem refSame_any (F G : Nat → Prop) (L : List Ent) (a b : Option Addr) (n c d : Nat) (m : Nat) (w : World) (hl : EList w F a n c L) (hk : EList w G b m d L) :
    Calls Try.prog 24 #[.slice a n c, .slice b m d] w fun r w' => r = .returned (.bool true) ∧ Below w.heap.size w w' := by
  have hlen := hl.length
  obtain rfl : n = m := hlen.symm.trans hk.length
  have hmx : n ≤ maxLen := Nat.le_trans hl.cap.1 hl.cap.2
  unfold maxLen at hmx
  have ha := fun W (h : Below w.heap.size w W) i (hi : i < n) => (hl.low.on (Same.low h)).ent i hi
  have hb := fun W (h : Below w.heap.size w W) i (hi : i < n) => (hk.low.on (Same.low h)).ent i hi
  have HA := Lib.hid ha
  have HB := Lib.hid hb
  clear ha hb hl hk
  go_enter Try.func24, Try.ntmps24
  go_wp2_with fail
  go_loopw [5] (fun c wr => ∃ j : Nat, c = .int .i64 (j : Int) ∧ j ≤ n ∧ Below w.heap.size w wr) (fun c _ => n - (intOf c).toNat)
  case atStart => exact ⟨0, rfl, by omega, Below.refl _ _⟩
  case round =>
    obtain ⟨j, rfl, hj, hb⟩ := hrel
    by_cases hlt : j < n
    · obtain ⟨x, e, rfl, he, hat⟩ := HA.out wr hb j hlt
      obtain ⟨y, f, rfl, hf, haf⟩ := HB.out wr hb j hlt
      rw [he] at hf
      obtain rfl := Option.some.inj hf
      have hjI : (j : Int) < (n : Int) := by omega
      clear hf he
      obtain ⟨eb, ek, ev, em, ez, eo⟩ := e
      try simp only at hat haf
      go_wp2_with fail
      refine Plan.start (fun W => EntAt W x j ⟨eb, ek, ev, em, ez, eo⟩ ∧ EntAt W y j ⟨eb, ek, ev, em, ez, eo⟩) [(0, true), (1, true), (2, true), (3, true), (4, true), (5, true), (6, true), (7, true), (8, true)] (by kernel_rfl) (by kernel_rfl) (by kernel_rfl) (by kernel_rfl) ⟨hat, haf⟩ ?_
      simp only [List.map_cons, List.map_nil, List.getElem?_toArray, List.getElem?_cons_zero, List.getElem?_cons_succ]
      repeat (first | (refine Plan.take ?_ (by rfl) ?_ ?_; rotate_left; (· rintro w9 ⟨⟨u0, u1, u2, u3, u4, u5⟩, ⟨v0, v1, v2, v3, v4, v5⟩⟩; go_simp; (try rw [if_neg (by omega)]); all_goals (with_reducible rfl)); simp only [Act.put, List.setIfInBounds_toArray, List.set_cons_zero, List.set_cons_succ]) | (refine Plan.pass (by rfl) ?_; simp only [Act.put, List.setIfInBounds_toArray, List.set_cons_zero, List.set_cons_succ]))
      refine Plan.ends ?_
      have b9 := hb.drew
      clear hat haf
      go_wp2_with fail
      go_roundw
      case rel => exact ⟨j + 1, by go_num, by omega, b9⟩
      case measure => simp [intOf]; omega
    · obtain rfl : j = n := by omega
      go_wp2_with fail
      go_ret
      exact ⟨rfl, hb⟩
end Go.Proofs.Ytbaclgedohpibaa.Ents
