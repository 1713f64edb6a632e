/- The walk of the document's own Verify, for any record and any list of strings. -/
import Derived.Test.YtjihkcjoaefppaaSumRef
namespace Go.Proofs.Ytjihkcjoaefppaa
open Go.RowKit Plan

set_option maxHeartbeats 1000000 in
theorem refVerify_any (k b v m : Int) (p : ByteArray) (a : Option Addr) (len cap : Nat) (zs : List ByteArray) (w : World) (hs : IsStrs w a len cap zs) :
    Calls Try.prog 10 #[.agg #[.int .i64 k, .int .i64 b, .int .i64 v, .int .i64 m, .string p], .slice a len cap] w fun e w' => e = .returned (.bool (SumMath.fits ⟨k, b, v, m, p.data.toList⟩ (bytesOf zs))) ∧ Below w.heap.size w w' := by
  have hm := fun W (h : Below w.heap.size w W) => refMake_any a len cap zs W (hs.on h (Nat.le_refl _))
  have hf : SumMath.fits ⟨k, b, v, m, p.data.toList⟩ (bytesOf zs) = ((SumMath.makeE (bytesOf zs) == 0) && ((SumMath.makeR (bytesOf zs)).kind == k && ((SumMath.makeR (bytesOf zs)).block == b && ((SumMath.makeR (bytesOf zs)).version == v && ((SumMath.makeR (bytesOf zs)).move == m && ((⟨(SumMath.makeR (bytesOf zs)).payload.toArray⟩ : ByteArray).toList == p.toList)))))) := by
    rw [eq_bytes _ _ _ _ (toList_mk _) rfl]; rfl
  generalize SumMath.fits ⟨k, b, v, m, p.data.toList⟩ (bytesOf zs) = F at hf ⊢
  generalize SumMath.makeR (bytesOf zs) = r at hm hf
  generalize SumMath.makeE (bytesOf zs) = E at hm hf
  simp only [recV] at hm
  generalize r.kind = k1 at hm hf
  generalize r.block = b1 at hm hf
  generalize r.version = v1 at hm hf
  generalize r.move = m1 at hm hf
  generalize (⟨r.payload.toArray⟩ : ByteArray) = p1 at hm hf
  have hb0 : Below w.heap.size w (w.alloc (.cells #[.int .i64 k, .int .i64 b, .int .i64 v, .int .i64 m, .string p] 24)) := (Below.refl _ _).alloc (Nat.le_refl _) _
  have HM := Lib.hid hm
  have HB := Lib.hid hb0
  have HF := Lib.hid hf
  clear hm hb0 hf
  go_enter Try.func10, Try.ntmps10
  by_cases hE : E = 0
  · subst hE
    go_wp2_with (go_at_call 8; ((with_reducible refine (HM.out _ HB.out).mono ?_); rintro e w1 ⟨rfl, hb1⟩; have hr := row5 (row_al (row_on hb1 (heap_alloc_new w (.cells #[.int .i64 k, .int .i64 b, .int .i64 v, .int .i64 m, .string p] 24)) (by simp)) (.cells #[.int .i64 k1, .int .i64 b1, .int .i64 v1, .int .i64 m1, .string p1] 24)); have hx := row5 (heap_alloc_new w1 (.cells #[.int .i64 k1, .int .i64 b1, .int .i64 v1, .int .i64 m1, .string p1] 24)); obtain ⟨y0, c0, c1, c2, c3, c4⟩ := hr; obtain ⟨z0, d0, d1, d2, d3, d4⟩ := hx))
    all_goals
      go_ret
      have z1 := hb1.size
      simp only [World.size_alloc] at z1
      refine ⟨?_, ((HB.out.trans (hb1.mono (by simp))).alloc (by omega) _)⟩
    all_goals (rw [HF.out]; simp [*])
  · have hE1 : (E == 0) = false := by simp [hE]
    have HE := Lib.hid hE1
    go_wp2_with (go_at_call 8; ((with_reducible refine (HM.out _ HB.out).mono ?_); rintro e w1 ⟨rfl, hb1⟩; have hr := row5 (row_al (row_on hb1 (heap_alloc_new w (.cells #[.int .i64 k, .int .i64 b, .int .i64 v, .int .i64 m, .string p] 24)) (by simp)) (.cells #[.int .i64 k1, .int .i64 b1, .int .i64 v1, .int .i64 m1, .string p1] 24)); have hx := row5 (heap_alloc_new w1 (.cells #[.int .i64 k1, .int .i64 b1, .int .i64 v1, .int .i64 m1, .string p1] 24)); obtain ⟨y0, c0, c1, c2, c3, c4⟩ := hr; obtain ⟨z0, d0, d1, d2, d3, d4⟩ := hx))
    all_goals
      go_ret
      have z1 := hb1.size
      simp only [World.size_alloc] at z1
      refine ⟨?_, ((HB.out.trans (hb1.mono (by simp))).alloc (by omega) _)⟩
    all_goals (rw [HF.out, HE.out]; rfl)
end Go.Proofs.Ytjihkcjoaefppaa
