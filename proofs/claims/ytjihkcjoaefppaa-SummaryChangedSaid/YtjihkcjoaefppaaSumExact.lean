/- The walk of the statement on the summary of any sectors, from contracts of the program's Make and Verify. -/
import Derived.Test.YtjihkcjoaefppaaSumVerify
namespace Go.Proofs.Ytjihkcjoaefppaa
open Go.RowKit Plan

def MakeSays : Prop := ∀ (a : Option Addr) (len cap : Nat) (zs : List ByteArray) (w : World), IsStrs w a len cap zs →
  Calls Try.prog 7 #[.slice a len cap] w fun e w' => e = .returned (.tuple #[.agg (recV (SumMath.makeR (bytesOf zs))), .int .i64 (SumMath.makeE (bytesOf zs))]) ∧ Below w.heap.size w w'
def VerifySays : Prop := ∀ (k b v m : Int) (p : ByteArray) (a : Option Addr) (len cap : Nat) (zs : List ByteArray) (w : World), IsStrs w a len cap zs →
  Calls Try.prog 9 #[.agg #[.int .i64 k, .int .i64 b, .int .i64 v, .int .i64 m, .string p], .slice a len cap] w fun e w' => e = .returned (.bool (SumMath.fits ⟨k, b, v, m, p.data.toList⟩ (bytesOf zs))) ∧ Below w.heap.size w w'
def AwakeSays : Prop := ∀ w, Calls Try.prog 6 #[] w fun e w' => e = .returned (.bool true) ∧ Below w.heap.size w w'
set_option maxHeartbeats 1000000 in
set_option maxRecDepth 20000 in
theorem sumExact_any (mk : MakeSays) (vf : VerifySays) (aw : AwakeSays) (a : Option Addr) (len cap : Nat) (zs : List ByteArray) (k b v m : Int) (p : ByteArray) (w : World) (hs : IsStrs w a len cap zs) :
    Calls Try.prog 3 #[.slice a len cap, .agg #[.int .i64 k, .int .i64 b, .int .i64 v, .int .i64 m, .string p]] w fun e w' => e = .returned (.bool true) ∧ Below w.heap.size w w' := by
  have hlen : len ≤ maxLen := by
    rcases hs with ⟨_, rfl, _⟩ | ⟨x, _, h1, h2, _⟩
    · unfold maxLen; omega
    · omega
  unfold maxLen at hlen
  have hm := fun W (h : Below w.heap.size w W) => mk a len cap zs W (hs.on h (Nat.le_refl _))
  have hrm := fun W (h : Below w.heap.size w W) => refMake_any a len cap zs W (hs.on h (Nat.le_refl _))
  have hv := fun W (h : Below w.heap.size w W) => vf k b v m p a len cap zs W (hs.on h (Nat.le_refl _))
  have hrv := fun W (h : Below w.heap.size w W) => refVerify_any k b v m p a len cap zs W (hs.on h (Nat.le_refl _))
  have hz : ∀ i : Nat, i < len → ∃ x s, a = some x ∧ zs[i]? = some s ∧ w.cell? (x.add i) = some (.string s) ∧ s.size ≤ maxLen := fun i hi => by
    obtain ⟨x, h1, h2⟩ := hs.some (by omega)
    have hl := hs.length
    exact ⟨x, zs[i]'(by omega), h1, List.getElem?_eq_getElem _, h2 i _ (List.getElem?_eq_getElem _)⟩
  generalize SumMath.makeR (bytesOf zs) = r at hm hrm
  generalize SumMath.makeE (bytesOf zs) = E at hm hrm
  generalize SumMath.fits ⟨k, b, v, m, p.data.toList⟩ (bytesOf zs) = F at hv hrv
  simp only [recV] at hm hrm
  generalize r.kind = k1 at hm hrm
  generalize r.block = b1 at hm hrm
  generalize r.version = v1 at hm hrm
  generalize r.move = m1 at hm hrm
  generalize (⟨r.payload.toArray⟩ : ByteArray) = p1 at hm hrm
  have H1 := Lib.hid hm
  have H2 := Lib.hid hrm
  have H3 := Lib.hid hv
  have H4 := Lib.hid hrv
  have HZ := Lib.hid hz
  have AW := Lib.hid aw
  clear hm hrm hv hrv hz mk vf hs aw
  have B0 : Below w.heap.size w (w.alloc (.cells #[.int .i64 k, .int .i64 b, .int .i64 v, .int .i64 m, .string p] 24)) := (Below.refl _ _).alloc (Nat.le_refl _) _
  go_enter Try.func3, Try.ntmps3
  go_wp2_with fail
  go_loop [5, 6] (fun n c => ∃ i : Nat, ∃ y : Int, c = .int .i64 i ∧ i ≤ len ∧ n = .int .i64 y) (fun _ c => len - (intOf c).toNat)
  case atStart => exact ⟨0, 0, rfl, by omega, rfl⟩
  case round =>
    obtain ⟨i, y, rfl, hi, rfl⟩ := hrel
    by_cases hlt : i < len
    · obtain ⟨x, s, rfl, -, hc, hsz⟩ := HZ.out i hlt
      have hcell := B0.cell (block_lt_of_cell hc)
      rw [hc] at hcell
      unfold maxLen at hsz
      have hltI : (i : Int) < (len : Int) := by omega
      go_wp2_with fail
      go_round
      case rel => exact ⟨i + 1, _, by go_num, by omega, rfl⟩
      case measure => simp [intOf]; omega
    · obtain rfl : i = len := by omega
      have AW2 := AW.out
      unfold AwakeSays at AW2
      have A := Lib.hid AW2
      clear AW2 AW HZ
      by_cases hn : 4000 < y
      · go_wp2_with (go_at_call 6; ((with_reducible refine (A.out _).mono ?_); rintro e w1 ⟨rfl, hb1⟩))
        go_ret
        exact ⟨rfl, B0.trans (hb1.mono B0.size)⟩
      · have hr0 := heap_alloc_new w (.cells #[.int .i64 k, .int .i64 b, .int .i64 v, .int .i64 m, .string p] 24)
        go_wp2_with (first
          | (go_at_call 7; ((with_reducible refine (H1.out _ B0).mono ?_); rintro e w1 ⟨rfl, hb1⟩; have y1 := (row5 hr0).1; have hr1 := row_al (row_on hb1 hr0 y1) (.cells #[.int .i64 k1, .int .i64 b1, .int .i64 v1, .int .i64 m1, .string p1] 24); have hx1 := heap_alloc_new w1 (.cells #[.int .i64 k1, .int .i64 b1, .int .i64 v1, .int .i64 m1, .string p1] 24); have z0 := B0.size; have B1 := (B0.trans (hb1.mono z0)).alloc (by have := hb1.size; omega) (.cells #[.int .i64 k1, .int .i64 b1, .int .i64 v1, .int .i64 m1, .string p1] 24)))
          | (go_at_call 8; ((with_reducible refine (H2.out _ B1).mono ?_); rintro e w2 ⟨rfl, hb2⟩; have hr2 := row_al (row_on hb2 hr1 (row5 hr1).1) (.cells #[.int .i64 k1, .int .i64 b1, .int .i64 v1, .int .i64 m1, .string p1] 24); have hx2 := row_al (row_on hb2 hx1 (row5 hx1).1) (.cells #[.int .i64 k1, .int .i64 b1, .int .i64 v1, .int .i64 m1, .string p1] 24); have hw2 := heap_alloc_new w2 (.cells #[.int .i64 k1, .int .i64 b1, .int .i64 v1, .int .i64 m1, .string p1] 24); have B2 := (B1.trans (hb2.mono B1.size)).alloc (by have := hb2.size; have := B1.size; omega) (.cells #[.int .i64 k1, .int .i64 b1, .int .i64 v1, .int .i64 m1, .string p1] 24))))
        obtain ⟨t0, c0, c1, c2, c3, c4⟩ := row5 hr2
        obtain ⟨t1, d0, d1, d2, d3, d4⟩ := row5 hx2
        obtain ⟨t2, e0, e1, e2, e3, e4⟩ := row5 hw2
        clear hr0 hr1 hr2 hx1 hx2 hw2 hb1 hb2 y1 z0 B1 hlen hi hlt H1 H2
        generalize w2.alloc (.cells #[.int .i64 k1, .int .i64 b1, .int .i64 v1, .int .i64 m1, .string p1] 24) = W at B2 c0 c1 c2 c3 c4 d0 d1 d2 d3 d4 e0 e1 e2 e3 e4 t0 t1 t2 ⊢
        refine Plan.start (Held W.heap.size W) [(0, false), (1, true), (2, true), (3, true), (4, true), (5, true), (6, true), (7, true), (8, true), (9, true), (10, true), (11, true), (12, true), (13, true), (15, true), (16, true), (14, false), (17, false), (18, true), (19, true), (20, true)] (by kernel_rfl) (by kernel_rfl) (by kernel_rfl) (by kernel_rfl) held_same ?_
        simp only [List.map_cons, List.map_nil, List.getElem?_toArray, List.getElem?_cons_zero, List.getElem?_cons_succ]
        have hS0 : Held W.heap.size W W.drew := held_same
        refine Plan.call (by rfl) 6 _ ?_ (A.out _) ?_
        · go_simp
        rintro e w4 ⟨rfl, hb4⟩
        have hSw4 := held_call (Nat.le_refl _) hS0 hb4
        refine ⟨_, rfl, hSw4, ?_⟩
        simp only [Act.put, List.setIfInBounds_toArray, List.set_cons_zero, List.set_cons_succ]
        repeat (first | (refine Plan.take ?_ (by rfl) ?_ ?_; rotate_left; (· rintro w9 ⟨hS9, -⟩; go_simp; (try rw [if_neg (by omega)]); all_goals (with_reducible rfl)); simp only [Act.put, List.setIfInBounds_toArray, List.set_cons_zero, List.set_cons_succ]) | (refine Plan.pass (by rfl) ?_; simp only [Act.put, List.setIfInBounds_toArray, List.set_cons_zero, List.set_cons_succ]))
        refine Plan.call (by rfl) 9 _ ?_ (H3.out _ (B2.trans (hSw4.2.mono B2.size))) ?_
        · go_simp
        rintro e w5 ⟨rfl, hb5⟩
        have hSw5 := held_call (Nat.le_refl _) hSw4 hb5
        refine ⟨_, rfl, hSw5, ?_⟩
        simp only [Act.put, List.setIfInBounds_toArray, List.set_cons_zero, List.set_cons_succ]
        repeat (first | (refine Plan.take ?_ (by rfl) ?_ ?_; rotate_left; (· rintro w9 ⟨hS9, -⟩; go_simp; (try rw [if_neg (by omega)]); all_goals (with_reducible rfl)); simp only [Act.put, List.setIfInBounds_toArray, List.set_cons_zero, List.set_cons_succ]) | (refine Plan.pass (by rfl) ?_; simp only [Act.put, List.setIfInBounds_toArray, List.set_cons_zero, List.set_cons_succ]))
        refine Plan.call (by rfl) 10 _ ?_ (H4.out _ (B2.trans (hSw5.2.mono B2.size))) ?_
        · go_simp
        rintro e w6 ⟨rfl, hb6⟩
        have hSw6 := held_call (Nat.le_refl _) hSw5 hb6
        refine ⟨_, rfl, hSw6, ?_⟩
        simp only [Act.put, List.setIfInBounds_toArray, List.set_cons_zero, List.set_cons_succ]
        repeat (first | (refine Plan.take ?_ (by rfl) ?_ ?_; rotate_left; (· rintro w9 ⟨hS9, -⟩; go_simp; (try rw [if_neg (by omega)]); all_goals (with_reducible rfl)); simp only [Act.put, List.setIfInBounds_toArray, List.set_cons_zero, List.set_cons_succ]) | (refine Plan.pass (by rfl) ?_; simp only [Act.put, List.setIfInBounds_toArray, List.set_cons_zero, List.set_cons_succ]))
        refine Plan.ends ?_
        go_wp2_with fail
        go_ret
        exact ⟨rfl, B2.trans (hSw6.2.mono B2.size)⟩
end Go.Proofs.Ytjihkcjoaefppaa
