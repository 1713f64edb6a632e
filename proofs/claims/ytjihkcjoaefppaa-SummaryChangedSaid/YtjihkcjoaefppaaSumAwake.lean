/- The sanity check of the summary's laws, from contracts of the program's Make and Verify. -/
import Derived.Test.YtjihkcjoaefppaaSumExact
import Derived.Test.YtjihkcjoaefppaaMakeRecord
namespace Go.Proofs.Ytjihkcjoaefppaa
open Go.RowKit Plan

theorem strs_one {W : World} {g : Nat} {s : ByteArray} (h : W.cell? ⟨g, 0, none⟩ = some (.string s)) (hs : s.size ≤ maxLen) : IsStrs W (some ⟨g, 0, none⟩) 1 1 [s] := by
  refine .inr ⟨_, rfl, Nat.le_refl _, by unfold maxLen; omega, rfl, fun i x hi => ?_⟩
  cases i with
  | zero =>
    obtain rfl : s = x := by simpa using hi
    have hadd : (⟨g, 0, none⟩ : Addr).add 0 = ⟨g, 0, none⟩ := by unfold Addr.add; split <;> simp_all
    rw [hadd]
    exact ⟨h, hs⟩
  | succ n => simp at hi
theorem awk_ok : RecMath.checkE (mk 2 1 7 0 ⟨#[]⟩) = 0 := by rw [check_eq]; decide
theorem awk_make : SumMath.makeE [RecMath.encL (mk 2 1 7 0 ⟨#[]⟩)] = 0 ∧ ∃ P, SumMath.makeR [RecMath.encL (mk 2 1 7 0 ⟨#[]⟩)] = ⟨3, 1, 7, 0, P⟩ := by
  have hd := RecMath.dec_enc awk_ok
  generalize RecMath.encL (mk 2 1 7 0 ⟨#[]⟩) = x at hd
  have hs : SumMath.secE x = 0 := by
    unfold SumMath.secE
    rw [if_pos hd.1, hd.2]
    exact if_pos (.inr rfl)
  have he : SumMath.errL [x] = 0 := by
    unfold SumMath.errL
    rw [if_pos hs]; rfl
  have hm := SumMath.make_ok (l := [x]) (by simp) (by simp) he
  have hg : SumMath.greatL [x] = 7 := by
    unfold SumMath.greatL
    rw [List.foldl_cons, List.foldl_nil, hd.2]
    decide
  rw [hg] at hm
  exact ⟨hm.1, _, hm.2⟩
theorem fits_self {l : List (List UInt8)} (h : SumMath.makeE l = 0) : SumMath.fits (SumMath.makeR l) l = true := by
  unfold SumMath.fits
  simp [h]
set_option maxHeartbeats 1000000 in
theorem sumAwake (hmk : MakeSays) (hvf : VerifySays) : AwakeSays := by
  intro w
  have hsec := sector_made 2 1 7 0 ⟨#[]⟩
  obtain ⟨hE, P, hR⟩ := awk_make
  have h40 := RecMath.enc_length awk_ok
  have hfit := fits_self hE
  rw [hR] at hfit
  generalize RecMath.encL (mk 2 1 7 0 ⟨#[]⟩) = x at hsec hE hR h40 hfit
  have hsz : (⟨x.toArray⟩ : ByteArray).size ≤ maxLen := by rw [size_bytes, h40]; unfold maxLen; omega
  have hx : bytesOf [(⟨x.toArray⟩ : ByteArray)] = [x] := by simp [bytesOf]
  generalize (⟨x.toArray⟩ : ByteArray) = s at hsec hsz hx
  obtain ⟨p, hp⟩ : ∃ p : ByteArray, p = ⟨P.toArray⟩ := ⟨_, rfl⟩
  have hpl : p.data.toList = P := by rw [hp, toList_mk]
  have m1 : ∀ W g, W.cell? ⟨g, 0, none⟩ = some (.string s) → Calls Try.prog 7 #[.slice (some ⟨g, 0, none⟩) 1 1] W fun e w' => e = .returned (.tuple #[.agg #[.int .i64 3, .int .i64 1, .int .i64 7, .int .i64 0, .string p], .int .i64 0]) ∧ Below W.heap.size W w' := fun W g h => by
    have h := hmk _ 1 1 [s] W (strs_one h hsz)
    rw [hx, hE, hR, recV, ← hp] at h
    exact h
  have m0 : ∀ W, Calls Try.prog 7 #[.slice none 0 0] W fun e w' => e = .returned (.tuple #[.agg #[.int .i64 0, .int .i64 0, .int .i64 0, .int .i64 0, .string ⟨#[]⟩], .int .i64 19]) ∧ Below W.heap.size W w' := fun W => hmk none 0 0 [] W (.inl ⟨rfl, rfl, rfl, rfl⟩)
  have v1 : ∀ W g, W.cell? ⟨g, 0, none⟩ = some (.string s) → Calls Try.prog 9 #[.agg #[.int .i64 3, .int .i64 1, .int .i64 7, .int .i64 0, .string p], .slice (some ⟨g, 0, none⟩) 1 1] W fun e w' => e = .returned (.bool true) ∧ Below W.heap.size W w' := fun W g h => by
    have h := hvf 3 1 7 0 p _ 1 1 [s] W (strs_one h hsz)
    rw [hx, hpl, hfit] at h
    exact h
  have M1 := Lib.hid m1
  have M0 := Lib.hid m0
  have V1 := Lib.hid v1
  have HS := Lib.hid hsec
  clear m1 m0 v1 hsec hx hsz hE hR h40 hfit hp hpl hmk hvf
  go_enter Try.func6, Try.ntmps6
  go_wp2_with (first
    | (go_at_call 14; ((with_reducible refine (HS.out _).mono ?_); rintro e w1 ⟨rfl, hb1⟩; have hx1 := heap_alloc_new w1 (.cells #[.string s] 9); have hc1 := cell_of_row _ _ 0 _ _ _ hx1; have z1 := hb1.size; have B1 := hb1.alloc z1 (.cells #[.string s] 9)))
    | (go_at_call 7; ((with_reducible refine (M1.out _ _ hc1).mono ?_); rintro e w2 ⟨rfl, hb2⟩; have hx2 := row_al (row_on hb2 hx1 (Array.getElem?_eq_some_iff.1 hx1).1) (.cells #[.int .i64 3, .int .i64 1, .int .i64 7, .int .i64 0, .string p] 24); have hq2 := heap_alloc_new w2 (.cells #[.int .i64 3, .int .i64 1, .int .i64 7, .int .i64 0, .string p] 24); have B2 := (B1.trans (hb2.mono B1.size)).alloc (by have := hb2.size; have := B1.size; omega) (.cells #[.int .i64 3, .int .i64 1, .int .i64 7, .int .i64 0, .string p] 24)))
    | (go_at_call 7; ((with_reducible refine (M0.out _).mono ?_); rintro e w3 ⟨rfl, hb3⟩; have hx3 := row_al (row_on hb3 hx2 (Array.getElem?_eq_some_iff.1 hx2).1) (.cells #[.int .i64 0, .int .i64 0, .int .i64 0, .int .i64 0, .string ⟨#[]⟩] 24); have hq3 := row_al (row_on hb3 hq2 (Array.getElem?_eq_some_iff.1 hq2).1) (.cells #[.int .i64 0, .int .i64 0, .int .i64 0, .int .i64 0, .string ⟨#[]⟩] 24); obtain ⟨y3, c0, c1, c2, c3, c4⟩ := row5 hq3; have hc3 : _ = some (Value.string s) := cell_of_row _ _ 0 _ _ _ hx3; have B3 := (B2.trans (hb3.mono B2.size)).alloc (by have := hb3.size; have := B2.size; omega) (.cells #[.int .i64 0, .int .i64 0, .int .i64 0, .int .i64 0, .string ⟨#[]⟩] 24)))
    | (go_at_call 9; ((with_reducible refine (V1.out _ _ hc3).mono ?_); rintro e w4 ⟨rfl, hb4⟩)))
  go_ret
  exact ⟨rfl, B3.trans (hb4.mono B3.size)⟩
end Go.Proofs.Ytjihkcjoaefppaa
