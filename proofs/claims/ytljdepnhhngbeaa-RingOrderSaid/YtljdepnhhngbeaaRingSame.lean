
/- The walk of the document's Same of rings, for equal rings. -/
import Derived.Test.YtljdepnhhngbeaaRingRef
import Derived.Test.YtljdepnhhngbeaaBaseBoxes
namespace Go.Proofs.Ytljdepnhhngbeaa.Ents
open Go.RowKit Plan RingMath Rws
abbrev RqAt (w : World) (x : Addr) (i : Nat) (r : Rq) : Prop := w.cell? (x.add (i * 4)) = some (.int .i64 r.serial) ∧ w.cell? ⟨(x.add (i * 4)).block, (x.add (i * 4)).off + 1, none⟩ = some (.int .i64 r.kind) ∧ w.cell? ⟨(x.add (i * 4)).block, (x.add (i * 4)).off + 2, none⟩ = some (.int .i64 r.block) ∧ w.cell? ⟨(x.add (i * 4)).block, (x.add (i * 4)).off + 3, none⟩ = some (.string r.data)
theorem rq_all {w : World} {F : Nat → Prop} {a : Option Addr} {n c : Nat} {L : List Rq} (h : GList w F a n c L) (i : Nat) (hi : i < n) : ∃ x r, a = some x ∧ L[i]? = some r ∧ RqAt w x i r := by
  obtain ⟨x, r, hx, hr, hc⟩ := h.at' rqOk i hi
  exact ⟨x, r, hx, hr, hc 0 _ rfl, by rw [← ent_add_off x (i * 4) 0]; exact hc 1 _ rfl, by rw [← ent_add_off x (i * 4) 1]; exact hc 2 _ rfl, by rw [← ent_add_off x (i * 4) 2]; exact hc 3 _ rfl⟩
set_option maxHeartbeats 4000000 in
set_option maxRecDepth 20000 in
theorem refGSame_any (F G : Nat → Prop) (L : List Rq) (d : Int) (a b : Option Addr) (n c m k : Nat) (w : World) (hl : GList w F a n c L) (hk : GList w G b m k L) :
    Calls Try.prog 9 #[rgV d a n c, rgV d b m k] w fun r w' => r = .returned (.bool true) ∧ Below w.heap.size w w' := by
  have hlen := hl.length
  obtain rfl : n = m := hlen.symm.trans hk.length
  have hmx : n ≤ maxLen := Nat.le_trans hl.cap.1 hl.cap.2
  unfold maxLen at hmx
  have HA := Lib.hid (fun W (h : Below w.heap.size w W) i (hi : i < n) => rq_all (hl.same h) i hi)
  have HB := Lib.hid (fun W (h : Below w.heap.size w W) i (hi : i < n) => rq_all (hk.same h) i hi)
  have K := ((Bxs.start w).al (rgRow d a n c)).al (rgRow d b n k)
  rw [World.size_alloc] at K
  clear hl hk
  go_enter Try.func9, Try.ntmps9
  generalize hw0 : (w.alloc (rgRow d a n c)).alloc (rgRow d b n k) = w0 at *
  obtain ⟨c0, c1⟩ := rg_cells (K.get 1 rfl)
  obtain ⟨d0, d1⟩ := rg_cells (K.get 0 rfl)
  go_wp2_with fail
  clear hw0 c0 c1 d0 d1
  go_loopw [5] (fun x wr => ∃ j : Nat, x = .int .i64 (j : Int) ∧ j ≤ n ∧ Bxs w wr [(w.heap.size + 1, rgRow d b n k), (w.heap.size, rgRow d a n c)]) (fun x _ => n - (intOf x).toNat)
  case atStart => exact ⟨0, rfl, by omega, K⟩
  case round =>
    clear K
    obtain ⟨j, rfl, hj, K⟩ := hrel
    have c1 := (rg_cells (K.get 1 rfl)).2
    have d1 := (rg_cells (K.get 0 rfl)).2
    by_cases hlt : j < n
    · obtain ⟨x, e, rfl, he, hat⟩ := HA.out wr K.hb j hlt
      obtain ⟨y, f, rfl, hf, haf⟩ := HB.out wr K.hb j hlt
      rw [he] at hf
      obtain rfl := Option.some.inj hf
      have hjI : (j : Int) < (n : Int) := by omega
      clear hf he
      obtain ⟨es, ek, eb, ed⟩ := e
      try simp only at hat haf
      go_upto_region 6 with fail
      refine Plan.start (fun W => (W.cell? ⟨w.heap.size, 1, none⟩ = some (.slice (some x) n c) ∧ W.cell? ⟨w.heap.size + 1, 1, none⟩ = some (.slice (some y) n k)) ∧ RqAt W x j ⟨es, ek, eb, ed⟩ ∧ RqAt W y j ⟨es, ek, eb, ed⟩) [(0, true), (1, true), (2, true), (3, true), (4, true), (5, true), (6, true), (7, true), (8, true), (9, true), (10, true)] (by kernel_rfl) (by kernel_rfl) (by kernel_rfl) (by kernel_rfl) ⟨⟨c1, d1⟩, hat, haf⟩ ?_
      simp only [List.map_cons, List.map_nil, List.getElem?_toArray, List.getElem?_cons_zero, List.getElem?_cons_succ]
      repeat (first | (refine Plan.take ?_ (by rfl) ?_ ?_; rotate_left; (· rintro w9 ⟨⟨s0, s1⟩, ⟨u0, u1, u2, u3⟩, ⟨v0, v1, v2, v3⟩⟩; go_simp; (try rw [if_neg (by omega)]); all_goals (with_reducible rfl)); simp only [Act.put, List.setIfInBounds_toArray, List.set_cons_zero, List.set_cons_succ]) | (refine Plan.pass (by rfl) ?_; simp only [Act.put, List.setIfInBounds_toArray, List.set_cons_zero, List.set_cons_succ]))
      refine Plan.ends ?_
      have K2 := K.drew
      clear hat haf
      go_wp2_with fail
      go_roundw
      case rel => exact ⟨j + 1, by go_num, by omega, K2⟩
      case measure => simp [intOf]; omega
    · obtain rfl : j = n := by omega
      go_wp2_with fail
      go_ret
      exact ⟨rfl, K.hb⟩
end Go.Proofs.Ytljdepnhhngbeaa.Ents
