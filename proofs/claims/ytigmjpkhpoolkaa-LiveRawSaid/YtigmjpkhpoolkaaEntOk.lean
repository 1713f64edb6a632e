
/- The walks of the document's entry, place and Valid. -/
import Derived.Test.YtigmjpkhpoolkaaEntIs
namespace Go.Proofs.Ytigmjpkhpoolkaa.Ents
open Go.RowKit Plan EntMath
theorem ok_iff {e : Ent} : okE e = true ↔ (e.kind = 1 ∨ e.kind = 2) ∧ 1 ≤ e.version ∧ e.version ≤ 1099511627776 ∧ 0 ≤ e.move ∧ e.move ≤ 255 ∧ 0 ≤ e.block ∧ 0 ≤ e.zone ∧ 0 ≤ e.offset := by
  simp [okE, Bool.and_eq_true, and_assoc]
theorem ok_not {e : Ent} (h : ¬ ((e.kind = 1 ∨ e.kind = 2) ∧ 1 ≤ e.version ∧ e.version ≤ 1099511627776 ∧ 0 ≤ e.move ∧ e.move ≤ 255 ∧ 0 ≤ e.block ∧ 0 ≤ e.zone ∧ 0 ≤ e.offset)) : okE e = false := by
  cases hE : okE e
  · rfl
  · exact absurd (ok_iff.1 hE) h
theorem e_dec {E : Bool} {p : Prop} [Decidable p] (h1 : p → E = true) (h2 : ¬ p → E = false) : decide p = E := by
  by_cases h : p
  · rw [decide_eq_true h, h1 h]
  · rw [decide_eq_false h, h2 h]
set_option maxHeartbeats 1000000 in
theorem refEntry_any (e : Ent) (w : World) :
    Calls Try.prog 35 #[entV e] w fun r w' => r = .returned (.bool (okE e)) ∧ Below w.heap.size w w' := by
  have hy := (@ok_iff e).2
  have hn := @ok_not e
  generalize okE e = E at *
  obtain ⟨b, k, v, m, z, o⟩ := e
  try simp only at hy hn
  have HY := Lib.hid hy
  have HN := Lib.hid hn
  clear hy hn
  go_enter Try.func35, Try.ntmps35
  go_wp2
  all_goals go_ret
  all_goals exact ⟨e_b (by first | exact (HY.out (by omega)).symm | exact (HN.out (by omega)).symm | exact e_dec (fun h => HY.out (by omega)) (fun h => HN.out (by omega))), (Below.refl _ _).alloc (Nat.le_refl _) _⟩
set_option maxHeartbeats 1000000 in
set_option maxRecDepth 20000 in
theorem refPlace_any (F : Nat → Prop) (L : List Ent) (b : Int) (a : Option Addr) (len cap : Nat) (w : World) (hl : EList w F a len cap L) :
    Calls Try.prog 36 #[.slice a len cap, .int .i64 b] w fun r w' => r = .returned (.int .i64 (place L b : Int)) ∧ Below w.heap.size w w' := by
  have hlen := hl.length
  have hat := fun W (h : Below w.heap.size w W) i (hi : i < len) => (hl.on (Same.below h)).ent i hi
  have hmx : len ≤ maxLen := Nat.le_trans hl.cap.1 hl.cap.2
  have hend := fun (k : Nat) (h1 : ∀ i x, i < k → L[i]? = some x → x.block < b) (h2 : ∀ x, L[k]? = some x → b ≤ x.block) (hk : k ≤ L.length) => place_is h1 h2 hk
  have HAT := Lib.hid hat
  have HEND := Lib.hid hend
  unfold maxLen at hmx
  clear hat hl hend
  go_enter Try.func36, Try.ntmps36
  go_wp2_with fail
  go_loopw [5] (fun c wr => ∃ j : Nat, c = .int .i64 (j : Int) ∧ j ≤ len ∧ RowKit.Hid (∀ i x, i < j → L[i]? = some x → x.block < b) ∧ Below w.heap.size w wr) (fun c _ => len - (intOf c).toNat)
  case atStart => exact ⟨0, rfl, by omega, Lib.hid (fun i x h => absurd h (Nat.not_lt_zero _)), Below.refl _ _⟩
  case round =>
    obtain ⟨j, rfl, hj, hbf, hb⟩ := hrel
    by_cases hlt : j < len
    · obtain ⟨x, e, rfl, he, hat⟩ := HAT.out wr hb j hlt
      have hjI : (j : Int) < (len : Int) := by omega
      obtain ⟨c0, -⟩ := hat
      have hn1 := fun (h0 : e.block < b) i y (hi : i < j + 1) (h : L[i]? = some y) => (show y.block < b from by
        rcases Nat.lt_or_ge i j with h1 | h1
        · exact hbf.out i y h1 h
        · obtain rfl : i = j := by omega
          rw [he] at h
          obtain rfl := Option.some.inj h
          exact h0)
      have hn2 := fun (h0 : b ≤ e.block) => (show place L b = j from HEND.out j hbf.out (fun x h => by rw [he] at h; obtain rfl := Option.some.inj h; exact h0) (by omega))
      generalize e.block = B at *
      have HN1 := Lib.hid hn1
      have HN2 := Lib.hid hn2
      clear hn1 hn2 he
      by_cases h0 : B < b
      · go_wp2_with fail
        go_roundw
        case rel => exact ⟨j + 1, by go_num, by omega, Lib.hid (HN1.out h0), hb⟩
        case measure => simp [intOf]; omega
      · have h1 := HN2.out (by omega)
        have hd : decide (B < b) = false := by simpa using h0
        have H1 := Lib.hid h1
        clear h1
        go_wp2_with fail
        go_ret
        exact ⟨by rw [H1.out]; rfl, hb⟩
    · obtain rfl : j = len := by omega
      have h1 := HEND.out j hbf.out (fun x h => by rw [List.getElem?_eq_none (by omega)] at h; cases h) (by omega)
      have H1 := Lib.hid h1
      clear h1
      go_wp2_with fail
      go_ret
      exact ⟨by rw [H1.out]; rfl, hb⟩
end Go.Proofs.Ytigmjpkhpoolkaa.Ents
