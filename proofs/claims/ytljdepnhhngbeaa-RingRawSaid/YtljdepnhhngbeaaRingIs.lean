
/- Rings in memory; the walk of the document's Valid. -/
import Derived.Test.YtljdepnhhngbeaaRingMath
import Derived.Test.YtljdepnhhngbeaaBaseRows
import Derived.Test.YtljdepnhhngbeaaBasePlan
import Derived.Lib.Hide
import Derived.Deep.Cut
namespace Go.Proofs.Ytljdepnhhngbeaa.Ents
open Go.RowKit Plan RingMath Rws
def RQ : Row Rq := ⟨28, 22, 4, 40, .agg #[.int .i64 0, .int .i64 0, .int .i64 0, .string ⟨#[]⟩], fun r => [.int .i64 r.serial, .int .i64 r.kind, .int .i64 r.block, .string r.data]⟩
theorem rqOk : RQ.Ok := ⟨fun _ => rfl, fun e u hu => by simp only [RQ, List.mem_cons, List.not_mem_nil, or_false] at hu; rcases hu with rfl | rfl | rfl | rfl <;> rfl, by decide, by kernel_rfl, rfl, Try.underlying22, by decide⟩
abbrev GList := TList RQ
abbrev rqV (r : Rq) : Value := .agg #[.int .i64 r.serial, .int .i64 r.kind, .int .i64 r.block, .string r.data]
abbrev rqRow (r : Rq) : Obj := .cells #[.int .i64 r.serial, .int .i64 r.kind, .int .i64 r.block, .string r.data] 28
abbrev rgV (d : Int) (a : Option Addr) (n c : Nat) : Value := .agg #[.int .i64 d, .slice a n c]
abbrev rgRow (d : Int) (a : Option Addr) (n c : Nat) : Obj := .cells #[.int .i64 d, .slice a n c] 24
theorem rg_info : (Try.prog.info? 24).map (·.size) = some 2 := by kernel_rfl
theorem rq_info : (Try.prog.info? 28).map (·.size) = some 4 := by kernel_rfl
theorem rg_cells {w : World} {g : Nat} {a b : Value} {t : TypeId} {fr : Nat × Nat} (h : w.heap[g]? = some (.cells #[a, b] t fr)) : w.cell? ⟨g, 0, none⟩ = some a ∧ w.cell? ⟨g, 1, none⟩ = some b := ⟨cell_of_row _ _ 0 _ _ _ h, cell_of_row _ _ 1 _ _ _ h⟩
theorem rq_at {w : World} {F : Nat → Prop} {a : Option Addr} {n c : Nat} {L : List Rq} (h : GList w F a n c L) (i : Nat) (hi : i < n) : ∃ x r, a = some x ∧ L[i]? = some r ∧ w.cell? (x.add (i * 4)) = some (.int .i64 r.serial) := by
  obtain ⟨x, r, hx, hr, hc⟩ := h.at' rqOk i hi
  exact ⟨x, r, hx, hr, hc 0 _ rfl⟩
theorem r_b {a b : Bool} (h : a = b) : Ending.returned (.bool a) = .returned (.bool b) := by rw [h]
set_option maxHeartbeats 8000000 in
set_option maxRecDepth 20000 in
theorem refGValid_any (F : Nat → Prop) (L : List Rq) (d : Int) (a : Option Addr) (n c : Nat) (w : World) (hl : GList w F a n c L) :
    Calls Try.prog 16 #[rgV d a n c] w fun r w' => r = .returned (.bool (validG d L)) ∧ Below w.heap.size w w' := by
  have hlen := hl.length
  have hA := (Below.refl w.heap.size w).alloc (Nat.le_refl _) (rgRow d a n c)
  have hr0 := heap_alloc_new w (rgRow d a n c)
  have HAT := Lib.hid (fun W (h : Below w.heap.size w W) i (hi : i < n) => rq_at (hl.same h) i hi)
  have hcp := hl.cap
  unfold maxLen at hcp
  clear hl
  by_cases h1 : d < 1
  · rw [valid_out (.inl h1)]
    go_enter Try.func16, Try.ntmps16
    obtain ⟨c0, c1⟩ := rg_cells hr0
    generalize hw0 : w.alloc (rgRow d a n c) = w0 at *
    go_wp2_with fail
    go_ret
    exact ⟨rfl, hA⟩
  by_cases h2 : 8 < d
  · rw [valid_out (.inr (.inl h2))]
    go_enter Try.func16, Try.ntmps16
    obtain ⟨c0, c1⟩ := rg_cells hr0
    generalize hw0 : w.alloc (rgRow d a n c) = w0 at *
    go_wp2_with fail
    go_ret
    exact ⟨rfl, hA⟩
  by_cases h3 : d < (n : Int)
  · rw [valid_out (.inr (.inr (by omega)))]
    go_enter Try.func16, Try.ntmps16
    obtain ⟨c0, c1⟩ := rg_cells hr0
    generalize hw0 : w.alloc (rgRow d a n c) = w0 at *
    go_wp2_with fail
    go_ret
    exact ⟨rfl, hA⟩
  have HYES := Lib.hid (@valid_yes d L (by omega) (by omega) (by omega))
  have HBAD := Lib.hid (fun (i : Nat) (h1 : i < L.length) (h2 : ascG L i = false) => valid_bad (d := d) h1 h2)
  go_enter Try.func16, Try.ntmps16
  obtain ⟨c0, c1⟩ := rg_cells hr0
  generalize hw0 : w.alloc (rgRow d a n c) = w0 at *
  go_wp2_with fail
  go_loopw [3] (fun x wr => ∃ j : Nat, x = .int .i64 (j : Int) ∧ j ≤ n ∧ RowKit.Hid (∀ i, i < j → ascG L i = true) ∧ wr.heap[w.heap.size]? = some (rgRow d a n c) ∧ Below w.heap.size w wr) (fun x _ => n - (intOf x).toNat)
  case atStart => exact ⟨0, rfl, by omega, Lib.hid (fun i hi => absurd hi (Nat.not_lt_zero _)), hr0, hA⟩
  case round =>
    clear c0 c1 hr0 hA
    obtain ⟨j, rfl, hj, hall, hr, hb⟩ := hrel
    obtain ⟨c0, c1⟩ := rg_cells hr
    by_cases hlt : j < n
    · obtain ⟨x, r, rfl, hz, hc⟩ := HAT.out wr hb j hlt
      have hjI : (j : Int) < (n : Int) := by omega
      have HE := Lib.hid (fun (h : r.serial < 0) => asc_neg hz h)
      have HZ := Lib.hid hz
      generalize hs : r.serial = s at *
      clear hz
      by_cases hneg : s < 0
      · have HR := Lib.hid (HBAD.out j (by omega) (HE.out hneg))
        go_upto_region 6 with fail
        refine Plan.start (fun W => W.cell? ⟨w.heap.size, 1, none⟩ = some (.slice (some x) n c) ∧ W.cell? (x.add (j * 4)) = some (.int .i64 s)) [(0, true), (1, true), (2, true), (3, true), (4, true), (5, true), (6, true), (7, true), (8, true), (9, true), (10, true), (11, true), (12, true), (13, true), (14, true), (15, true), (16, true), (17, true), (18, true), (19, true), (20, true), (21, true), (22, true), (23, true), (24, true), (25, true), (26, true)] (by kernel_rfl) (by kernel_rfl) (by kernel_rfl) (by kernel_rfl) ⟨c1, hc⟩ ?_
        simp only [List.map_cons, List.map_nil, List.getElem?_toArray, List.getElem?_cons_zero, List.getElem?_cons_succ]
        repeat (first | (refine Plan.take ?_ (by rfl) ?_ ?_; rotate_left; (· rintro w9 ⟨u0, u1⟩; go_simp; (try rw [if_neg (by omega)]); all_goals (with_reducible rfl)); simp only [Act.put, List.setIfInBounds_toArray, List.set_cons_zero, List.set_cons_succ]) | (refine Plan.pass (by rfl) ?_; simp only [Act.put, List.setIfInBounds_toArray, List.set_cons_zero, List.set_cons_succ]))
        refine Plan.ends ?_
        go_wp2_with fail
        go_ret
        exact ⟨r_b HR.out.symm, hb.drew⟩
      · by_cases hj0 : j = 0
        · subst hj0
          have HN := Lib.hid (fun i (hi : i < 0 + 1) => (show ascG L i = true from by
            obtain rfl : i = 0 := by omega
            exact asc_zero HZ.out (by rw [hs]; exact hneg)))
          rw [Nat.zero_mul, Addr.add_zero'] at hc
          clear HZ HE hs
          go_upto_region 6 with fail
          refine Plan.start (fun W => W.cell? ⟨w.heap.size, 1, none⟩ = some (.slice (some x) n c) ∧ W.cell? x = some (.int .i64 s)) [(0, true), (1, true), (2, true), (3, true), (4, true), (5, true), (6, true), (7, true), (8, true), (9, true), (10, true), (11, true), (12, true), (13, true), (14, true), (15, true), (16, true), (17, true), (18, true), (19, true), (20, true), (21, true), (22, true), (23, true), (24, true), (25, true), (26, true)] (by kernel_rfl) (by kernel_rfl) (by kernel_rfl) (by kernel_rfl) ⟨c1, hc⟩ ?_
          simp only [List.map_cons, List.map_nil, List.getElem?_toArray, List.getElem?_cons_zero, List.getElem?_cons_succ]
          repeat (first | (refine Plan.take ?_ (by rfl) ?_ ?_; rotate_left; (· rintro w9 ⟨u0, u1⟩; go_simp; (try rw [if_neg (by omega)]); all_goals (with_reducible rfl)); simp only [Act.put, List.setIfInBounds_toArray, List.set_cons_zero, List.set_cons_succ]) | (refine Plan.pass (by rfl) ?_; simp only [Act.put, List.setIfInBounds_toArray, List.set_cons_zero, List.set_cons_succ]))
          refine Plan.ends ?_
          go_wp2_with fail
          go_roundw
          case rel => exact ⟨0 + 1, by go_num, by omega, HN, e_on (Below.refl _ _).drew hr (e_lt hr), hb.drew⟩
          case measure => simp [intOf]; omega
        · obtain ⟨i, hi⟩ : ∃ i, j = i + 1 := ⟨j - 1, by omega⟩
          obtain ⟨x', r2, hx', hz2, hc2⟩ := HAT.out wr hb i (by omega)
          obtain rfl := Option.some.inj hx'
          have HE2 := Lib.hid (show ascG L j = decide (r2.serial < s) from by
            have h9 := HZ.out
            subst hi
            rw [asc_next h9 hz2 (by rw [hs]; exact hneg), hs])
          generalize hs2 : r2.serial = s2 at *
          clear HZ HE hz2 hs2 hs hx'
          have hj1 : IntKind.i64.wrap ((j : Int) - 1) = (i : Int) := by rw [IntWalk.i64_in _ (by omega)]; omega
          have hiI : (i : Int) < (n : Int) := by omega
          have hjp : (0 : Int) < (j : Int) := by omega
          have hjp2 : 0 < j := by omega
          have hi1 : i + 1 ≤ j ∧ j ≤ i + 1 := by omega
          clear hi hj0
          by_cases hq : s2 < s
          · have HN := Lib.hid (fun i (hi : i < j + 1) => (show ascG L i = true from by
              rcases Nat.lt_or_ge i j with h9 | h9
              · exact hall.out i h9
              · obtain rfl : i = j := by omega
                rw [HE2.out, decide_eq_true hq]))
            have d1 : ¬ s ≤ s2 := by omega
            clear hq
            go_upto_region 6 with fail
            refine Plan.start (fun W => W.cell? ⟨w.heap.size, 1, none⟩ = some (.slice (some x) n c) ∧ W.cell? (x.add (j * 4)) = some (.int .i64 s) ∧ W.cell? (x.add (i * 4)) = some (.int .i64 s2)) [(0, true), (1, true), (2, true), (3, true), (4, true), (5, true), (6, true), (7, true), (8, true), (9, true), (10, true), (11, true), (12, true), (13, true), (14, true), (15, true), (16, true), (17, true), (18, true), (19, true), (20, true), (21, true), (22, true), (23, true), (24, true), (25, true), (26, true)] (by kernel_rfl) (by kernel_rfl) (by kernel_rfl) (by kernel_rfl) ⟨c1, hc, hc2⟩ ?_
            simp only [List.map_cons, List.map_nil, List.getElem?_toArray, List.getElem?_cons_zero, List.getElem?_cons_succ]
            repeat (first | (refine Plan.take ?_ (by rfl) ?_ ?_; rotate_left; (· rintro w9 ⟨u0, u1, u2⟩; go_simp; (try rw [if_neg (by omega)]); all_goals (with_reducible rfl)); simp only [Act.put, List.setIfInBounds_toArray, List.set_cons_zero, List.set_cons_succ]) | (refine Plan.pass (by rfl) ?_; simp only [Act.put, List.setIfInBounds_toArray, List.set_cons_zero, List.set_cons_succ]))
            refine Plan.ends ?_
            go_wp2_with fail
            go_roundw
            case rel => exact ⟨j + 1, by go_num, by omega, HN, e_on (Below.refl _ _).drew hr (e_lt hr), hb.drew⟩
            case measure => simp [intOf]; omega
          · have HR := Lib.hid (HBAD.out j (by omega) (by rw [HE2.out, decide_eq_false hq]))
            have d1 : s ≤ s2 := by omega
            clear hq
            go_upto_region 6 with fail
            refine Plan.start (fun W => W.cell? ⟨w.heap.size, 1, none⟩ = some (.slice (some x) n c) ∧ W.cell? (x.add (j * 4)) = some (.int .i64 s) ∧ W.cell? (x.add (i * 4)) = some (.int .i64 s2)) [(0, true), (1, true), (2, true), (3, true), (4, true), (5, true), (6, true), (7, true), (8, true), (9, true), (10, true), (11, true), (12, true), (13, true), (14, true), (15, true), (16, true), (17, true), (18, true), (19, true), (20, true), (21, true), (22, true), (23, true), (24, true), (25, true), (26, true)] (by kernel_rfl) (by kernel_rfl) (by kernel_rfl) (by kernel_rfl) ⟨c1, hc, hc2⟩ ?_
            simp only [List.map_cons, List.map_nil, List.getElem?_toArray, List.getElem?_cons_zero, List.getElem?_cons_succ]
            repeat (first | (refine Plan.take ?_ (by rfl) ?_ ?_; rotate_left; (· rintro w9 ⟨u0, u1, u2⟩; go_simp; (try rw [if_neg (by omega)]); all_goals (with_reducible rfl)); simp only [Act.put, List.setIfInBounds_toArray, List.set_cons_zero, List.set_cons_succ]) | (refine Plan.pass (by rfl) ?_; simp only [Act.put, List.setIfInBounds_toArray, List.set_cons_zero, List.set_cons_succ]))
            refine Plan.ends ?_
            go_wp2_with fail
            go_ret
            exact ⟨r_b HR.out.symm, hb.drew⟩
    · obtain rfl : j = n := by omega
      have hjI : ¬ (j : Int) < (j : Int) := by omega
      have HR := Lib.hid (HYES.out (fun i hi => hall.out i (by omega)))
      go_wp2_with fail
      go_ret
      exact ⟨r_b HR.out.symm, hb⟩
end Go.Proofs.Ytljdepnhhngbeaa.Ents
