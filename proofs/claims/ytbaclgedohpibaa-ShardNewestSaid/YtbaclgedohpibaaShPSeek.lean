
/- The walk of the program's Find. -/
import Derived.Test.YtbaclgedohpibaaShPValid
import Derived.Test.YtbaclgedohpibaaEntMath2
namespace Go.Proofs.Ytbaclgedohpibaa.Ents
open Go.RowKit Plan EntMath
theorem place_some {L : List Ent} {b : Int} {x : Ent} (hA : Asc L) (h : lookE L b = some x) : L[place L b]? = some x := by
  rw [look_place hA] at h
  split at h
  · cases h
  · rename_i y hy
    split at h
    · obtain rfl := Option.some.inj h
      exact hy
    · cases h
theorem place_in {L : List Ent} {b : Int} {x : Ent} (hA : Asc L) (h : lookE L b = some x) : place L b < L.length := (List.getElem?_eq_some_iff.1 (place_some hA h)).1
set_option maxHeartbeats 2000000 in
set_option maxRecDepth 20000 in
theorem find_any (F : Nat → Prop) (L : List Ent) (b : Int) (a : Option Addr) (len cap : Nat) (w : World) (hl : EList w F a len cap L) (hm : len ≤ 1000000) :
    Calls Try.prog 20 #[.slice a len cap, .int .i64 b] w fun r w' => r = .returned (findV L b) ∧ Below w.heap.size w w' := by
  have hlen := hl.length
  have hA := (Below.refl w.heap.size w).alloc (Nat.le_refl _) (entRow 0 0 0 0 0 0)
  have hr0 := heap_alloc_new w (entRow 0 0 0 0 0 0)
  have HV := Lib.hid (fun W (h : Below w.heap.size w W) => valid_any _ L a len cap W (hl.low.on (Same.low h)))
  have HAT := Lib.hid (fun W (h : Below w.heap.size w W) i (hi : i < len) => (hl.low.on (Same.low h)).ent i hi)
  cases hva : validB L
  · rw [hva] at HV
    have H1 := Lib.hid (findV_none (b := b) (find_invalid (L := L) hva))
    clear hl hva HAT
    generalize findV L b = V at *
    go_enter Try.func20, Try.ntmps20
    generalize hw0 : w.alloc (entRow 0 0 0 0 0 0) = w0 at *
    go_wp2_with (first
      | (go_at_call 22; ((with_reducible refine (HV.out _ hA).mono ?_); rintro e w1 ⟨rfl, hb1⟩; have hr1 := e_on hb1 hr0 (e_lt hr0); have b1 := hA.trans (hb1.mono hA.size)))
      | ((with_reducible refine Plan.store_lit 26 (.tmp 4) _ (w.heap.size) ?_ hr1 ?_ ?_ ?_ ?_ ?_ ?_); rotate_left; (· rfl); (· rfl); (· exact entry_info); (· rfl); (· simp [Value.oneCell']); simp only [Act.put]))
    exact bodyPost_ret (Plan.results_cell_tmp (p := 4) (q := 5) rfl _ _ _ _ _ _ _ rfl (setRow_heap _ _ _ _ _ _ hr1) Try.underlying26 rfl entry_info) rfl ⟨e_v H1.out.symm, below_setRow b1 (Nat.le_refl _) _⟩
  · rw [hva] at HV
    have hasc := (valid_iff.1 hva).2
    have HI := Lib.hid (fun W (h : Below w.heap.size w W) => index_any _ L b a len cap W (hl.low.on (Same.low h)) hasc hm)
    have hfl := find_look hva b
    unfold IndexPost at HI
    cases hlk : lookE L b with
    | none =>
      rw [hlk] at HI hfl
      have H1 := Lib.hid (findV_none (b := b) hfl)
      clear hl hva hasc hfl hlk HAT
      generalize findV L b = V at *
      go_enter Try.func20, Try.ntmps20
      generalize hw0 : w.alloc (entRow 0 0 0 0 0 0) = w0 at *
      go_wp2_with (first
        | (go_at_call 22; ((with_reducible refine (HV.out _ hA).mono ?_); rintro e w1 ⟨rfl, hb1⟩; have hr1 := e_on hb1 hr0 (e_lt hr0); have b1 := hA.trans (hb1.mono hA.size)))
        | (go_at_call 30; ((with_reducible refine (HI.out _ b1).mono ?_); rintro e w2 ⟨rfl, hb2⟩; have hr2 := e_on hb2 hr1 (e_lt hr1); have b2 := b1.trans (hb2.mono b1.size)))
        | ((with_reducible refine Plan.store_lit 26 (.tmp 4) _ (w.heap.size) ?_ hr2 ?_ ?_ ?_ ?_ ?_ ?_); rotate_left; (· rfl); (· rfl); (· exact entry_info); (· rfl); (· simp [Value.oneCell']); simp only [Act.put]))
      exact bodyPost_ret (Plan.results_cell_tmp (p := 4) (q := 5) rfl _ _ _ _ _ _ _ rfl (setRow_heap _ _ _ _ _ _ hr2) Try.underlying26 rfl entry_info) rfl ⟨e_v H1.out.symm, below_setRow b2 (Nat.le_refl _) _⟩
    | some x =>
      rw [hlk] at HI hfl
      have H1 := Lib.hid (findV_some (b := b) hfl)
      have hat := place_some hasc hlk
      have hin := place_in hasc hlk
      rw [hlen] at hin
      generalize findV L b = V at *
      generalize place L b = k at *
      have hc := fun W (h : Below w.heap.size w W) => (show ∃ y, a = some y ∧ EntAt W y k x from by
        obtain ⟨y, e', rfl, he', h'⟩ := HAT.out W h k hin
        rw [hat] at he'
        obtain rfl := Option.some.inj he'
        exact ⟨y, rfl, h'⟩)
      obtain ⟨y, rfl, -⟩ := hc w (Below.refl _ _)
      have HC := Lib.hid (fun W (h : Below w.heap.size w W) => (show EntAt W y k x from by
        obtain ⟨y', hy, h'⟩ := hc W h
        obtain rfl := Option.some.inj hy
        exact h'))
      have hkI : (k : Int) < (len : Int) := by omega
      obtain ⟨eb, ek, ev, em, ez, eo⟩ := x
      try simp only at HC H1
      clear hl hva hasc hfl hlk HAT hc hat
      go_enter Try.func20, Try.ntmps20
      generalize hw0 : w.alloc (entRow 0 0 0 0 0 0) = w0 at *
      go_wp2_with (first
        | (go_at_call 22; ((with_reducible refine (HV.out _ hA).mono ?_); rintro e w1 ⟨rfl, hb1⟩; have hr1 := e_on hb1 hr0 (e_lt hr0); have b1 := hA.trans (hb1.mono hA.size)))
        | (go_at_call 30; ((with_reducible refine (HI.out _ b1).mono ?_); rintro e w2 ⟨rfl, hb2⟩; have hr2 := e_on hb2 hr1 (e_lt hr1); have b2 := b1.trans (hb2.mono b1.size); obtain ⟨c0, c1, c2, c3, c4, c5⟩ := HC.out _ b2))
        | ((with_reducible refine Plan.store_lit 26 (.tmp 4) _ (w.heap.size) ?_ hr2 ?_ ?_ ?_ ?_ ?_ ?_); rotate_left; (· rfl); (· rfl); (· exact entry_info); (· rfl); (· simp [Value.oneCell']); simp only [Act.put]))
      exact bodyPost_ret (Plan.results_cell_tmp (p := 4) (q := 5) rfl _ _ _ _ _ _ _ rfl (setRow_heap _ _ _ _ _ _ hr2) Try.underlying26 rfl entry_info) rfl ⟨e_v H1.out.symm, below_setRow b2 (Nat.le_refl _) _⟩
end Go.Proofs.Ytbaclgedohpibaa.Ents
