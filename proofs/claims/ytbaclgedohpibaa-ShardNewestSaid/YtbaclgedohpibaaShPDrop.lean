
/- The walk of the program's Drop; the program keeps what is asked of a shard. -/
import Derived.Test.YtbaclgedohpibaaShPReloc
import Derived.Test.YtbaclgedohpibaaShAgree
namespace Go.Proofs.Ytbaclgedohpibaa.Ents
open Go.RowKit Plan EntMath
set_option maxHeartbeats 4000000 in
set_option maxRecDepth 20000 in
theorem drop_any (F : Nat → Prop) (L : List Ent) (cut : Int) (a : Option Addr) (len cap : Nat) (w : World) (hl : EList w F a len cap L) (hm : len ≤ 900000) :
    Calls Try.prog 23 #[.slice a len cap, .int .i64 cut] w (DropPost w F (stayL L cut) (goneL L cut)) := by
  have hlen := hl.length
  have hv := fun W (h : Below w.heap.size w W) => valid_any _ L a len cap W (hl.low.on (Same.low h))
  have hat := fun W (h : Below w.heap.size w W) i (hi : i < len) => (hl.low.on (Same.low h)).ent i hi
  have HV := Lib.hid hv
  have HAT := Lib.hid hat
  clear hv hat hl
  have hw := Below.refl w.heap.size w
  cases hva : validB L
  · rw [show stayL L cut = [] from by unfold stayL; rw [hva]; rfl, show goneL L cut = [] from by unfold goneL; rw [hva]; rfl]
    rw [hva] at HV
    clear hva
    go_enter Try.func23, Try.ntmps23
    go_wp2_with (first
      | (go_at_call 22; ((with_reducible refine (HV.out _ hw).mono ?_); rintro e9 w1 ⟨rfl, hb1⟩)))
    go_ret2
    exact ⟨_, _, _, _, _, _, rfl, EList.nil _ _, EList.nil _ _, hb1⟩
  · rw [show stayL L cut = L.filter (fun e => !gone cut e) from by unfold stayL; rw [if_pos hva], show goneL L cut = L.filter (gone cut) from by unfold goneL; rw [if_pos hva]]
    rw [hva] at HV
    clear hva
    have hend1 : ∀ W v, W.ownsRow w.heap.size 26 6 v ((L.take len).filter (fun e => !gone cut e)).length (ents ((L.take len).filter (fun e => !gone cut e))) → ∃ a n c, v = .slice a n c ∧ EList W (Plus F w.heap.size) a n c (L.filter (fun e => !gone cut e)) := fun W v h => by
      obtain ⟨-, a9, c9, h9, hl9⟩ := owns_ents (F := Plus F w.heap.size) h (fun b hb => .inr (h.lt b hb).1)
      rw [List.take_of_length_le (by omega)] at h9 hl9
      exact ⟨_, _, _, h9, hl9⟩
    have hend2 : ∀ W v, W.ownsRow w.heap.size 26 6 v ((L.take len).filter (gone cut)).length (ents ((L.take len).filter (gone cut))) → ∃ a n c, v = .slice a n c ∧ EList W (Plus F w.heap.size) a n c (L.filter (gone cut)) := fun W v h => by
      obtain ⟨-, a9, c9, h9, hl9⟩ := owns_ents (F := Plus F w.heap.size) h (fun b hb => .inr (h.lt b hb).1)
      rw [List.take_of_length_le (by omega)] at h9 hl9
      exact ⟨_, _, _, h9, hl9⟩
    have HE1 := Lib.hid hend1
    have HE2 := Lib.hid hend2
    have HN1 := Lib.hid (fun j e (h : L[j]? = some e) => filter_next h (fun e => !gone cut e))
    have HN2 := Lib.hid (fun j e (h : L[j]? = some e) => filter_next h (gone cut))
    have hb0 : ∀ j, ((L.take j).filter (fun e => !gone cut e)).length ≤ 900000 := fun j => Nat.le_trans (List.length_filter_le _ _) (by rw [List.length_take]; omega)
    have hb1' : ∀ j, ((L.take j).filter (gone cut)).length ≤ 900000 := fun j => Nat.le_trans (List.length_filter_le _ _) (by rw [List.length_take]; omega)
    have HB0 := Lib.hid hb0
    have HB1 := Lib.hid hb1'
    clear hend1 hend2 hb0 hb1'
    have hs0 : ([] : List Ent) = (L.take 0).filter (fun e => !gone cut e) := by simp
    have hs1 : ([] : List Ent) = (L.take 0).filter (gone cut) := by simp
    have HS0 := Lib.hid hs0
    have HS1 := Lib.hid hs1
    clear hs0 hs1
    go_enter Try.func23, Try.ntmps23
    go_wp2_with (first
      | (go_at_call 22; ((with_reducible refine (HV.out _ hw).mono ?_); rintro e9 w1 ⟨rfl, hb1⟩)))
    go_loopw [6, 7, 15] (fun v u c wr => ∃ j : Nat, c = .int .i64 (j : Int) ∧ j ≤ len ∧ wr.ownsRow w.heap.size 26 6 v ((L.take j).filter (fun e => !gone cut e)).length (ents ((L.take j).filter (fun e => !gone cut e))) ∧ wr.ownsRow w.heap.size 26 6 u ((L.take j).filter (gone cut)).length (ents ((L.take j).filter (gone cut))) ∧ Apart v u ∧ Below w.heap.size w wr) (fun _ _ c _ => len - (intOf c).toNat)
    case atStart => exact ⟨0, rfl, by omega, (by rw [← HS0.out]; exact World.ownsRow_nil _ _ _ _), (by rw [← HS1.out]; exact World.ownsRow_nil _ _ _ _), (fun b h9 _ => absurd h9 (by simp [Value.ownBlock])), hb1⟩
    case round =>
      obtain ⟨j, rfl, hj, hv, hu, hap, hb⟩ := hrel
      by_cases hlt : j < len
      · obtain ⟨x, e, rfl, he, hat⟩ := HAT.out wr hb j hlt
        have hjI : (j : Int) < (len : Int) := by omega
        have N1 := HN1.out j e he
        have N2 := HN2.out j e he
        have B0 := HB0.out j
        have B1 := HB1.out j
        generalize (L.take j).filter (fun e => !gone cut e) = S at *
        generalize (L.take j).filter (gone cut) = G at *
        have hxb := hat.lt
        obtain ⟨eb, ek, ev, em, ez, eo⟩ := e
        have hgc : gone cut ⟨eb, ek, ev, em, ez, eo⟩ = (decide (ek = 2) && decide (ev < cut)) := rfl
        rw [hgc] at N1 N2
        obtain ⟨c0, c1, c2, c3, c4, c5⟩ := hat
        try simp only at c0 c1 c2 c3 c4 c5
        have q0 := hb.alloc hb.size (entRow eb ek ev em ez eo)
        have q1 := q0.alloc q0.size (entRow eb ek ev em ez eo)
        have hbx := ((Below.refl wr.heap.size wr).alloc (Nat.le_refl _) (entRow eb ek ev em ez eo)).alloc (by simp only [World.size_alloc]; omega) (entRow eb ek ev em ez eo)
        have hv1 := e_owns_on hv hbx
        have hu1 := e_owns_on hu hbx
        have hnew : ((wr.alloc (entRow eb ek ev em ez eo)).alloc (entRow eb ek ev em ez eo)).heap[wr.heap.size + 1]? = some (entRow eb ek ev em ez eo) := heap_second wr _ _
        have hszz : ((wr.alloc (entRow eb ek ev em ez eo)).alloc (entRow eb ek ev em ez eo)).heap.size = wr.heap.size + 1 + 1 := by simp only [World.size_alloc]
        obtain ⟨d0, d1, d2, d3, d4, d5⟩ := entry_row (heap_alloc_new wr (entRow eb ek ev em ez eo))
        clear he hgc
        by_cases hg : ek = 2 ∧ ev < cut
        · have t1 : (ek == 2) = true := by simpa using hg.1
          have t2 : decide (ev < cut) = true := by simpa using hg.2
          have t3 := hg.2
          rw [decide_eq_true hg.1, t2] at N1 N2
          have HN1' := Lib.hid N1
          have HN2' := Lib.hid N2
          clear N1 N2 hg
          go_wp2_with (first
            | (at_builtin; refine append_ent rfl (.tmp 28) (.tmp 30) rfl w.heap.size _ _ G rfl hu1 (wr.heap.size + 1) ⟨eb, ek, ev, em, ez, eo⟩ rfl hnew B1 q1.size ?_; intro g9 k9 w9 hown9 hgrow9 hat9))
          have b9 := q1.grown hgrow9 q1.size (fun z9 h9 => (hu.lt z9 h9).1)
          have hv9 := owns_apart hv1 hap hgrow9
          have hap9 := fun n' c' => apart_next (n' := n') (c' := c') hv1 hap hat9 (Nat.le_refl _)
          clear hgrow9 hat9
          rw [show S ++ (if (!(true && true)) = true then [(⟨eb, ek, ev, em, ez, eo⟩ : Ent)] else []) = S from List.append_nil _] at HN1'
          go_roundw
          case rel => exact ⟨j + 1, by go_num, by omega, by rw [HN1'.out]; exact hv9, by rw [HN2'.out, List.length_append]; exact hown9, hap9 _ _, b9⟩
          case measure => simp [intOf]; omega
        · have hgf : (decide (ek = 2) && decide (ev < cut)) = false := by
            cases h2 : (decide (ek = 2) && decide (ev < cut))
            · rfl
            · rw [Bool.and_eq_true, decide_eq_true_eq, decide_eq_true_eq] at h2
              exact absurd h2 hg
          rw [hgf] at N1 N2
          have HN1' := Lib.hid N1
          have HN2' := Lib.hid N2
          clear N1 N2 hgf
          have hor : ((ek == 2) = true ∧ decide (ev < cut) = false) ∨ (ek == 2) = false := by
            by_cases h2 : ek = 2
            · exact .inl ⟨by simpa using h2, by have : ¬ ev < cut := fun h => hg ⟨h2, h⟩
                                                simpa using this⟩
            · exact .inr (by simpa using h2)
          clear hg
          rw [show G ++ (if (false : Bool) = true then [(⟨eb, ek, ev, em, ez, eo⟩ : Ent)] else []) = G from List.append_nil _] at HN2'
          rcases hor with ⟨t1, t2⟩ | t1
          all_goals
            go_wp2_with (first
              | (at_builtin; refine append_ent rfl (.tmp 32) (.tmp 34) rfl w.heap.size _ _ S rfl hv1 (wr.heap.size + 1) ⟨eb, ek, ev, em, ez, eo⟩ rfl hnew B0 q1.size ?_; intro g9 k9 w9 hown9 hgrow9 hat9))
            have b9 := q1.grown hgrow9 q1.size (fun z9 h9 => (hv.lt z9 h9).1)
            have hu9 := owns_apart hu1 hap.symm hgrow9
            have hap9 := fun n' c' => (apart_next (n' := n') (c' := c') hu1 hap.symm hat9 (Nat.le_refl _)).symm
            clear hgrow9 hat9
            go_roundw
            case rel => exact ⟨j + 1, by go_num, by omega, by rw [HN1'.out, List.length_append]; exact hown9, by rw [HN2'.out]; exact hu9, hap9 _ _, b9⟩
            case measure => simp [intOf]; omega
      · obtain rfl : j = len := by omega
        obtain ⟨a1, n1, k1, rfl, l1⟩ := HE1.out _ _ hv
        obtain ⟨a2, n2, k2, rfl, l2⟩ := HE2.out _ _ hu
        clear hv hu hap
        go_wp2_with fail
        go_ret2
        exact ⟨_, _, _, _, _, _, rfl, l1, l2, hb⟩
theorem shardOk : ShardOk where
  valid := fun F L a len cap w hl _ => valid_any F L a len cap w hl
  find := fun F L b a len cap w hl hm => find_any F L b a len cap w hl (by omega)
  install := fun F L e a len cap w hF hl hm => install_any F L e a len cap w hF hl (by omega)
  relocate := fun F L b v fz fo tz to m a len cap w _ hl hm => relocate_any F L b v fz fo tz to m a len cap w hl (by omega)
  drop := fun F L cut a len cap w _ hl hm => drop_any F L cut a len cap w hl (by omega)
end Go.Proofs.Ytbaclgedohpibaa.Ents
