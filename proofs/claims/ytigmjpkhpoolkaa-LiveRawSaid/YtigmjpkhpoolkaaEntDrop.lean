
/- The walks of the document's Drop and Same. -/
import Derived.Test.YtigmjpkhpoolkaaEntReloc
namespace Go.Proofs.Ytigmjpkhpoolkaa.Ents
open Go.RowKit Plan EntMath
/-- what Drop leaves -/
def DropPost (w : World) (F : Nat → Prop) (L M : List Ent) (r : Ending) (w' : World) : Prop :=
  ∃ a n c b m d, r = .returned (.tuple #[.slice a n c, .slice b m d]) ∧ EList w' (Plus F w.heap.size) a n c L ∧ EList w' (Plus F w.heap.size) b m d M ∧ Below w.heap.size w w'
theorem append_ent {w : World} {ops : Array Oper} {rest : List Oper} {o : Oper} {a : Act} {Q : Exit → Act → World → Prop} (hgd : o.guard = none) (s x : Operand)
    (ho : o.op = .call { callee := .builtin .append, args := #[s, x], argTypes := #[29, 29] })
    (base : Nat) (v : Value) (m0 : Nat) (M : List Ent) (hs : a.eval s = v) (hown : w.ownsRow base 28 6 v m0 (ents M)) (g : Nat) (e : Ent) (hx : a.eval x = .slice (some ⟨g, 0, none⟩) 1 1) (hg : w.heap[g]? = some (entRow e.block e.kind e.version e.move e.zone e.offset)) (hm : m0 ≤ 900000) (hbase : base ≤ w.heap.size)
    (h : ∀ g' c' w', w'.ownsRow base 28 6 (.slice (some ⟨g', 0, none⟩) (m0 + 1) c') (m0 + 1) (ents (M ++ [e])) → w.grownBy w' v.ownBlock → (v.ownBlock = some g' ∨ g' = w.heap.size) → wpList Try.prog ops Q rest (a.put o.dst (.slice (some ⟨g', 0, none⟩) (m0 + 1) c')) w') : wpList Try.prog ops Q (o :: rest) a w := by
  obtain ⟨i1, hi1, hy0, hy1, hy2⟩ := info_parts e_info
  have hL := (elist_one hg).news
  refine wpList_append_lies w hgd s x 29 ho base 28 i1 _ 6 48 Try.underlying29 hi1 hy0 hy1 hy2 rfl (by decide) v m0 (ents M) hs hown ⟨g, 0, none⟩ 1 1 (ents [e]) hx rfl hL (ents_flat _) (by decide) (by unfold maxLen; omega) (by omega) hbase _ rfl ?_
  intro g' c' w' h1 h2 h3 _
  rw [← ents_append] at h1
  exact h g' c' w' h1 h2 h3
theorem take_next {L : List Ent} {j : Nat} {e : Ent} (h : L[j]? = some e) : L.take (j + 1) = L.take j ++ [e] := by
  rw [List.take_add_one, h]
  rfl
theorem filter_next {L : List Ent} {j : Nat} {e : Ent} (h : L[j]? = some e) (p : Ent → Bool) : (L.take (j + 1)).filter p = (L.take j).filter p ++ (if p e = true then [e] else []) := by
  rw [take_next h, List.filter_append]
  congr 1
  simp only [List.filter_cons, List.filter_nil]
/-- two lists of the call's own in different blocks -/
def Apart (v u : Value) : Prop := ∀ b, v.ownBlock = some b → u.ownBlock = some b → False
theorem Apart.symm {v u : Value} (h : Apart v u) : Apart u v := fun b h1 h2 => h b h2 h1
theorem owns_apart {w w' : World} {B sz n : Nat} {t : TypeId} {v u : Value} {xs : List Value} (h : w.ownsRow B t sz v n xs) (hap : Apart v u) (hg : w.grownBy w' u.ownBlock) : w'.ownsRow B t sz v n xs := by
  refine h.kept hg ?_
  cases hv : v.ownBlock with
  | none => exact .inl rfl
  | some b => exact .inr (fun e => hap b hv e.symm)
theorem apart_next {w : World} {B sz n n' c' g H : Nat} {t : TypeId} {v u : Value} {xs : List Value} (hv : w.ownsRow B t sz v n xs) (hap : Apart v u) (hat : u.ownBlock = some g ∨ g = H) (hH : w.heap.size ≤ H) : Apart v (.slice (some ⟨g, 0, none⟩) n' c') := by
  intro b hb hb2
  have e : g = b := Option.some.inj (show some g = some b from hb2)
  subst e
  rcases hat with h | h
  · exact hap _ hb h
  · have := (hv.lt g hb).2
    omega
set_option maxHeartbeats 4000000 in
set_option maxRecDepth 20000 in
theorem refDrop_any (F : Nat → Prop) (L : List Ent) (cut : Int) (a : Option Addr) (len cap : Nat) (w : World) (hl : EList w F a len cap L) (hm : len ≤ 900000) :
    Calls Try.prog 13 #[.slice a len cap, .int .i64 cut] w (DropPost w F (stayL L cut) (goneL L cut)) := by
  have hlen := hl.length
  have hv := fun W (h : Below w.heap.size w W) => refValid_any _ L a len cap W (hl.low.on (Same.low h))
  have hat := fun W (h : Below w.heap.size w W) i (hi : i < len) => (hl.low.on (Same.low h)).ent i hi
  have HV := Lib.hid hv
  have HAT := Lib.hid hat
  clear hv hat hl
  have hw := Below.refl w.heap.size w
  cases hva : validB L
  · rw [show stayL L cut = [] from by unfold stayL; rw [hva]; rfl, show goneL L cut = [] from by unfold goneL; rw [hva]; rfl]
    rw [hva] at HV
    clear hva
    go_enter Try.func13, Try.ntmps13
    go_wp2_with (first
      | (go_at_call 31; ((with_reducible refine (HV.out _ hw).mono ?_); rintro e9 w1 ⟨rfl, hb1⟩)))
    go_ret2
    exact ⟨_, _, _, _, _, _, rfl, EList.nil _ _, EList.nil _ _, hb1⟩
  · rw [show stayL L cut = L.filter (fun e => !gone cut e) from by unfold stayL; rw [if_pos hva], show goneL L cut = L.filter (gone cut) from by unfold goneL; rw [if_pos hva]]
    rw [hva] at HV
    clear hva
    have hend1 : ∀ W v, W.ownsRow w.heap.size 28 6 v ((L.take len).filter (fun e => !gone cut e)).length (ents ((L.take len).filter (fun e => !gone cut e))) → ∃ a n c, v = .slice a n c ∧ EList W (Plus F w.heap.size) a n c (L.filter (fun e => !gone cut e)) := fun W v h => by
      obtain ⟨-, a9, c9, h9, hl9⟩ := owns_ents (F := Plus F w.heap.size) h (fun b hb => .inr (h.lt b hb).1)
      rw [List.take_of_length_le (by omega)] at h9 hl9
      exact ⟨_, _, _, h9, hl9⟩
    have hend2 : ∀ W v, W.ownsRow w.heap.size 28 6 v ((L.take len).filter (gone cut)).length (ents ((L.take len).filter (gone cut))) → ∃ a n c, v = .slice a n c ∧ EList W (Plus F w.heap.size) a n c (L.filter (gone cut)) := fun W v h => by
      obtain ⟨-, a9, c9, h9, hl9⟩ := owns_ents (F := Plus F w.heap.size) h (fun b hb => .inr (h.lt b hb).1)
      rw [List.take_of_length_le (by omega)] at h9 hl9
      exact ⟨_, _, _, h9, hl9⟩
    have HE1 := Lib.hid hend1
    have HE2 := Lib.hid hend2
    have HN1 := Lib.hid (fun j e (h : L[j]? = some e) => filter_next h (fun e => !gone cut e))
    have HN2 := Lib.hid (fun j e (h : L[j]? = some e) => filter_next h (gone cut))
    have hb0 : ∀ j, ((L.take j).filter (fun e => !gone cut e)).length ≤ 900000 := fun j => Nat.le_trans (List.length_filter_le _ _) (by rw [List.length_take]; omega)
    have hb1' : ∀ j, ((L.take j).filter (gone cut)).length ≤ 900000 := fun j => Nat.le_trans (List.length_filter_le _ _) (by rw [List.length_take]; omega)
    have HB0 := Lib.hid hb0
    have HB1 := Lib.hid hb1'
    clear hend1 hend2 hb0 hb1'
    have hs0 : ([] : List Ent) = (L.take 0).filter (fun e => !gone cut e) := by simp
    have hs1 : ([] : List Ent) = (L.take 0).filter (gone cut) := by simp
    have HS0 := Lib.hid hs0
    have HS1 := Lib.hid hs1
    clear hs0 hs1
    go_enter Try.func13, Try.ntmps13
    go_wp2_with (first
      | (go_at_call 31; ((with_reducible refine (HV.out _ hw).mono ?_); rintro e9 w1 ⟨rfl, hb1⟩)))
    go_loopw [6, 7, 8] (fun v u c wr => ∃ j : Nat, c = .int .i64 (j : Int) ∧ j ≤ len ∧ wr.ownsRow w.heap.size 28 6 v ((L.take j).filter (fun e => !gone cut e)).length (ents ((L.take j).filter (fun e => !gone cut e))) ∧ wr.ownsRow w.heap.size 28 6 u ((L.take j).filter (gone cut)).length (ents ((L.take j).filter (gone cut))) ∧ Apart v u ∧ Below w.heap.size w wr) (fun _ _ c _ => len - (intOf c).toNat)
    case atStart => exact ⟨0, rfl, by omega, (by rw [← HS0.out]; exact World.ownsRow_nil _ _ _ _), (by rw [← HS1.out]; exact World.ownsRow_nil _ _ _ _), (fun b h9 _ => absurd h9 (by simp [Value.ownBlock])), hb1⟩
    case round =>
      obtain ⟨j, rfl, hj, hv, hu, hap, hb⟩ := hrel
      by_cases hlt : j < len
      · obtain ⟨x, e, rfl, he, hat⟩ := HAT.out wr hb j hlt
        have hjI : (j : Int) < (len : Int) := by omega
        have N1 := HN1.out j e he
        have N2 := HN2.out j e he
        have B0 := HB0.out j
        have B1 := HB1.out j
        generalize (L.take j).filter (fun e => !gone cut e) = S at *
        generalize (L.take j).filter (gone cut) = G at *
        have hxb := hat.lt
        obtain ⟨eb, ek, ev, em, ez, eo⟩ := e
        have hgc : gone cut ⟨eb, ek, ev, em, ez, eo⟩ = (decide (ek = 2) && decide (ev < cut)) := rfl
        rw [hgc] at N1 N2
        obtain ⟨c0, c1, c2, c3, c4, c5⟩ := hat
        try simp only at c0 c1 c2 c3 c4 c5
        have q1 := hb.alloc hb.size (entRow eb ek ev em ez eo)
        have hv1 := e_owns_on hv ((Below.refl _ _).alloc (Nat.le_refl _) (entRow eb ek ev em ez eo))
        have hu1 := e_owns_on hu ((Below.refl _ _).alloc (Nat.le_refl _) (entRow eb ek ev em ez eo))
        clear he hgc
        by_cases hg : ek = 2 ∧ ev < cut
        · have t1 : (ek == 2) = true := by simpa using hg.1
          have t2 : decide (ev < cut) = true := by simpa using hg.2
          have t3 := hg.2
          rw [decide_eq_true hg.1, t2] at N1 N2
          have HN1' := Lib.hid N1
          have HN2' := Lib.hid N2
          clear N1 N2 hg
          go_wp2_with (first
            | (at_builtin; refine append_ent rfl (.tmp 33) (.tmp 38) rfl w.heap.size _ _ G rfl hu1 wr.heap.size ⟨eb, ek, ev, em, ez, eo⟩ rfl (heap_alloc_new wr (entRow eb ek ev em ez eo)) B1 q1.size ?_; intro g9 k9 w9 hown9 hgrow9 hat9))
          have b9 := q1.grown hgrow9 q1.size (fun z9 h9 => (hu.lt z9 h9).1)
          have hv9 := owns_apart hv1 hap hgrow9
          have hap9 := fun n' c' => apart_next (n' := n') (c' := c') hv1 hap hat9 (Nat.le_refl _)
          clear hgrow9 hat9
          rw [show S ++ (if (!(true && true)) = true then [(⟨eb, ek, ev, em, ez, eo⟩ : Ent)] else []) = S from List.append_nil _] at HN1'
          go_roundw
          case rel => exact ⟨j + 1, by go_num, by omega, by rw [HN1'.out]; exact hv9, by rw [HN2'.out, List.length_append]; exact hown9, hap9 _ _, b9⟩
          case measure => simp [intOf]; omega
        · have hgf : (decide (ek = 2) && decide (ev < cut)) = false := by
            cases h2 : (decide (ek = 2) && decide (ev < cut))
            · rfl
            · rw [Bool.and_eq_true, decide_eq_true_eq, decide_eq_true_eq] at h2
              exact absurd h2 hg
          rw [hgf] at N1 N2
          have HN1' := Lib.hid N1
          have HN2' := Lib.hid N2
          clear N1 N2 hgf
          have hor : ((ek == 2) = true ∧ decide (ev < cut) = false) ∨ (ek == 2) = false := by
            by_cases h2 : ek = 2
            · exact .inl ⟨by simpa using h2, by have : ¬ ev < cut := fun h => hg ⟨h2, h⟩
                                                simpa using this⟩
            · exact .inr (by simpa using h2)
          clear hg
          rw [show G ++ (if (false : Bool) = true then [(⟨eb, ek, ev, em, ez, eo⟩ : Ent)] else []) = G from List.append_nil _] at HN2'
          rcases hor with ⟨t1, t2⟩ | t1
          all_goals
            go_wp2_with (first
              | (at_builtin; refine append_ent rfl (.tmp 40) (.tmp 45) rfl w.heap.size _ _ S rfl hv1 wr.heap.size ⟨eb, ek, ev, em, ez, eo⟩ rfl (heap_alloc_new wr (entRow eb ek ev em ez eo)) B0 q1.size ?_; intro g9 k9 w9 hown9 hgrow9 hat9))
            have b9 := q1.grown hgrow9 q1.size (fun z9 h9 => (hv.lt z9 h9).1)
            have hu9 := owns_apart hu1 hap.symm hgrow9
            have hap9 := fun n' c' => (apart_next (n' := n') (c' := c') hu1 hap.symm hat9 (Nat.le_refl _)).symm
            clear hgrow9 hat9
            go_roundw
            case rel => exact ⟨j + 1, by go_num, by omega, by rw [HN1'.out, List.length_append]; exact hown9, by rw [HN2'.out]; exact hu9, hap9 _ _, b9⟩
            case measure => simp [intOf]; omega
      · obtain rfl : j = len := by omega
        obtain ⟨a1, n1, k1, rfl, l1⟩ := HE1.out _ _ hv
        obtain ⟨a2, n2, k2, rfl, l2⟩ := HE2.out _ _ hu
        clear hv hu hap
        go_wp2_with fail
        go_ret2
        exact ⟨_, _, _, _, _, _, rfl, l1, l2, hb⟩
end Go.Proofs.Ytigmjpkhpoolkaa.Ents
