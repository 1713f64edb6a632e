
/- The walk of the document's Valid. -/
import Derived.Test.YtigmjpkhpoolkaaEntOk
namespace Go.Proofs.Ytigmjpkhpoolkaa.Ents
open Go.RowKit Plan EntMath
theorem EntAt.kept {w w' : World} {x : Addr} {i : Nat} {e : Ent} (h : EntAt w x i e) (hb : Below w.heap.size w w') (hx : x.block < w.heap.size) : EntAt w' x i e := by
  have hc : ∀ y : Addr, y.block = x.block → w'.cell? y = w.cell? y := fun y hy => hb.cell (by rw [hy]; exact hx)
  obtain ⟨h0, h1, h2, h3, h4, h5⟩ := h
  have hB : (x.add (i * 6)).block = x.block := ent_add_block x _
  exact ⟨(hc _ hB).trans h0, (hc ⟨(x.add (i * 6)).block, (x.add (i * 6)).off + 1, none⟩ hB).trans h1, (hc ⟨(x.add (i * 6)).block, (x.add (i * 6)).off + 2, none⟩ hB).trans h2, (hc ⟨(x.add (i * 6)).block, (x.add (i * 6)).off + 3, none⟩ hB).trans h3, (hc ⟨(x.add (i * 6)).block, (x.add (i * 6)).off + 4, none⟩ hB).trans h4, (hc ⟨(x.add (i * 6)).block, (x.add (i * 6)).off + 5, none⟩ hB).trans h5⟩
theorem EntAt.lt {w : World} {x : Addr} {i : Nat} {e : Ent} (h : EntAt w x i e) : x.block < w.heap.size := by
  have := World.block_lt_of_cell? w _ h.1
  rwa [ent_add_block] at this
theorem valid_no {L : List Ent} {i : Nat} {e : Ent} (he : L[i]? = some e) (h : okAt L i = false) : validB L = false := by
  cases hv : validB L
  · rfl
  · rw [valid_at hv he] at h; cases h
theorem valid_all {L : List Ent} (h : ∀ i, i < L.length → okAt L i = true) : validB L = true := List.all_eq_true.2 fun i hi => h i (List.mem_range.1 hi)
set_option maxHeartbeats 4000000 in
set_option maxRecDepth 20000 in
theorem refValid_any (F : Nat → Prop) (L : List Ent) (a : Option Addr) (len cap : Nat) (w : World) (hl : EList w F a len cap L) :
    Calls Try.prog 31 #[.slice a len cap] w fun r w' => r = .returned (.bool (validB L)) ∧ Below w.heap.size w w' := by
  have hlen := hl.length
  have hat := fun W (h : Below w.heap.size w W) i (hi : i < len) => (hl.on (Same.below h)).ent i hi
  have hmx : len ≤ maxLen := Nat.le_trans hl.cap.1 hl.cap.2
  unfold maxLen at hmx
  have HAT := Lib.hid hat
  have hall := @valid_all L
  have hno := fun i e he h => @valid_no L i e he h
  generalize validB L = R at *
  have HALL := Lib.hid hall
  have HNO := Lib.hid hno
  clear hat hl hall hno
  go_enter Try.func31, Try.ntmps31
  go_wp2_with fail
  go_loopw [3] (fun c wr => ∃ j : Nat, c = .int .i64 (j : Int) ∧ j ≤ len ∧ RowKit.Hid (∀ i, i < j → okAt L i = true) ∧ Below w.heap.size w wr) (fun c _ => len - (intOf c).toNat)
  case atStart => exact ⟨0, rfl, by omega, Lib.hid (fun i h => absurd h (Nat.not_lt_zero _)), Below.refl _ _⟩
  case round =>
    obtain ⟨j, rfl, hj, hbf, hb⟩ := hrel
    by_cases hlt : j < len
    · obtain ⟨x, e, rfl, he, hat⟩ := HAT.out wr hb j hlt
      have hjI : (j : Int) < (len : Int) := by omega
      have hokI := okAt_iff he
      have HE := Lib.hid (fun W => refEntry_any e W)
      have hatk := Lib.hid (fun v1 (h : Below wr.drew.heap.size wr.drew v1) => EntAt.kept (w := wr.drew) hat h hat.lt)
      have HN := Lib.hid (fun h => HNO.out j e he h)
      have hnx := Lib.hid (fun (h : okAt L j = true) i (hi : i < j + 1) => (show okAt L i = true from by
        rcases Nat.lt_or_ge i j with h1 | h1
        · exact hbf.out i h1
        · obtain rfl : i = j := by omega
          exact h))
      cases hok : okE e
      · have hA : okAt L j = false := by
          cases hA : okAt L j
          · rfl
          · rw [(hokI.1 hA).1] at hok; cases hok
        have hR := Lib.hid (HN.out hA)
        rw [hok] at HE
        clear hokI hok hA he
        obtain ⟨b, k, v, m, z, o⟩ := e
        try simp only at hat hatk HE
        go_wp2_with fail
        refine Plan.start (fun W => EntAt W x j ⟨b, k, v, m, z, o⟩) [(0, true), (1, true), (2, true), (3, true), (4, false), (5, true), (6, true), (7, true), (8, true), (9, true), (10, true), (11, true), (12, true), (13, true), (14, true), (15, true), (16, true), (17, true), (18, true), (19, true), (20, true), (21, true), (22, true), (23, true)] (by kernel_rfl) (by kernel_rfl) (by kernel_rfl) (by kernel_rfl) hat ?_
        simp only [List.map_cons, List.map_nil, List.getElem?_toArray, List.getElem?_cons_zero, List.getElem?_cons_succ]
        repeat (first | (refine Plan.take ?_ (by rfl) ?_ ?_; rotate_left; (· rintro w9 ⟨u0, u1, u2, u3, u4, u5⟩; go_simp; (try rw [if_neg (by omega)]); all_goals (with_reducible rfl)); simp only [Act.put, List.setIfInBounds_toArray, List.set_cons_zero, List.set_cons_succ]) | (refine Plan.pass (by rfl) ?_; simp only [Act.put, List.setIfInBounds_toArray, List.set_cons_zero, List.set_cons_succ]))
        refine Plan.call (by rfl) 35 _ ?_ (HE.out _) ?_
        · go_simp
        rintro e9 v1 ⟨rfl, hb1⟩
        refine ⟨_, rfl, hatk.out v1 hb1, ?_⟩
        simp only [Act.put, List.setIfInBounds_toArray, List.set_cons_zero, List.set_cons_succ]
        repeat (first | (refine Plan.take ?_ (by rfl) ?_ ?_; rotate_left; (· rintro w9 ⟨u0, u1, u2, u3, u4, u5⟩; go_simp; (try rw [if_neg (by omega)]); all_goals (with_reducible rfl)); simp only [Act.put, List.setIfInBounds_toArray, List.set_cons_zero, List.set_cons_succ]) | (refine Plan.pass (by rfl) ?_; simp only [Act.put, List.setIfInBounds_toArray, List.set_cons_zero, List.set_cons_succ]))
        refine Plan.ends ?_
        have b9 := hb.drew.trans (hb1.mono hb.size)
        clear hat
        go_wp2_with fail
        go_ret
        exact ⟨by rw [hR.out]; rfl, b9⟩
      · rw [hok] at HE
        by_cases h0 : j = 0
        · have hA : okAt L j = true := hokI.2 ⟨hok, fun d h _ => absurd h (by omega)⟩
          have hN := Lib.hid (hnx.out hA)
          have d1 : decide (0 < (j : Int)) = false := by simp; omega
          have d2 : decide (0 < j) = false := by simp; omega
          clear hokI hok hA he
          obtain ⟨b, k, v, m, z, o⟩ := e
          try simp only at hat hatk HE
          clear h0
          go_wp2_with fail
          refine Plan.start (fun W => EntAt W x j ⟨b, k, v, m, z, o⟩) [(0, true), (1, true), (2, true), (3, true), (4, false), (5, true), (6, true), (7, true), (8, true), (9, true), (10, true), (11, true), (12, true), (13, true), (14, true), (15, true), (16, true), (17, true), (18, true), (19, true), (20, true), (21, true), (22, true), (23, true)] (by kernel_rfl) (by kernel_rfl) (by kernel_rfl) (by kernel_rfl) hat ?_
          simp only [List.map_cons, List.map_nil, List.getElem?_toArray, List.getElem?_cons_zero, List.getElem?_cons_succ]
          repeat (first | (refine Plan.take ?_ (by rfl) ?_ ?_; rotate_left; (· rintro w9 ⟨u0, u1, u2, u3, u4, u5⟩; go_simp; (try rw [if_neg (by omega)]); all_goals (with_reducible rfl)); simp only [Act.put, List.setIfInBounds_toArray, List.set_cons_zero, List.set_cons_succ]) | (refine Plan.pass (by rfl) ?_; simp only [Act.put, List.setIfInBounds_toArray, List.set_cons_zero, List.set_cons_succ]))
          refine Plan.call (by rfl) 35 _ ?_ (HE.out _) ?_
          · go_simp
          rintro e9 v1 ⟨rfl, hb1⟩
          refine ⟨_, rfl, hatk.out v1 hb1, ?_⟩
          simp only [Act.put, List.setIfInBounds_toArray, List.set_cons_zero, List.set_cons_succ]
          repeat (first | (refine Plan.take ?_ (by rfl) ?_ ?_; rotate_left; (· rintro w9 ⟨u0, u1, u2, u3, u4, u5⟩; go_simp; (try rw [if_neg (by omega)]); all_goals (with_reducible rfl)); simp only [Act.put, List.setIfInBounds_toArray, List.set_cons_zero, List.set_cons_succ]) | (refine Plan.pass (by rfl) ?_; simp only [Act.put, List.setIfInBounds_toArray, List.set_cons_zero, List.set_cons_succ]))
          refine Plan.ends ?_
          have b9 := hb.drew.trans (hb1.mono hb.size)
          clear hat
          go_wp2_with fail
          go_roundw
          case rel => exact ⟨j + 1, by go_num, by omega, hN, b9⟩
          case measure => simp [intOf]; omega
        · obtain ⟨p, hp⟩ : ∃ p, j = p + 1 := ⟨j - 1, by omega⟩
          obtain ⟨x', f, hx', hf, hatf⟩ := HAT.out wr hb p (by omega)
          obtain rfl := Option.some.inj hx'
          have hpc := hatf.1
          have hpl := hatf.lt
          have hpI : (p : Int) < (len : Int) := by omega
          have hokF : okAt L j = true ↔ f.block < e.block := by
            rw [hokI]
            have hf' : L[j - 1]? = some f := by rw [hp]; exact hf
            exact ⟨fun h => h.2 f (by omega) hf', fun h => ⟨hok, fun d _ hd => by rw [hf'] at hd; obtain rfl := Option.some.inj hd; exact h⟩⟩
          have hpck := Lib.hid (fun v1 (h : Below wr.drew.heap.size wr.drew v1) => (h.cell (by rw [ent_add_block]; exact hpl)).trans hpc)
          have hpw : IntKind.i64.wrap ((j : Int) - 1) = (p : Int) := by rw [IntWalk.i64_in _ (by omega)]; omega
          have d1 : decide (0 < (j : Int)) = true := by simp; omega
          have d2 : decide (0 < j) = true := by simp; omega
          have hj0 : (0 : Int) < (j : Int) := by omega
          clear hatf hok hokI h0 hf hp hx'
          generalize f.block = D at *
          obtain ⟨b, k, v, m, z, o⟩ := e
          try simp only at hat hatk HE hokF
          by_cases hBD : b ≤ D
          · have hA : okAt L j = false := by
              cases hA : okAt L j
              · rfl
              · have := hokF.1 hA; omega
            have hR := Lib.hid (HN.out hA)
            have d3 : decide (b ≤ D) = true := by simpa using hBD
            clear hokF hA he
            go_wp2_with fail
            refine Plan.start (fun W => EntAt W x j ⟨b, k, v, m, z, o⟩ ∧ W.cell? (x.add (p * 6)) = some (.int .i64 D)) [(0, true), (1, true), (2, true), (3, true), (4, false), (5, true), (6, true), (7, true), (8, true), (9, true), (10, true), (11, true), (12, true), (13, true), (14, true), (15, true), (16, true), (17, true), (18, true), (19, true), (20, true), (21, true), (22, true), (23, true)] (by kernel_rfl) (by kernel_rfl) (by kernel_rfl) (by kernel_rfl) ⟨hat, hpc⟩ ?_
            simp only [List.map_cons, List.map_nil, List.getElem?_toArray, List.getElem?_cons_zero, List.getElem?_cons_succ]
            repeat (first | (refine Plan.take ?_ (by rfl) ?_ ?_; rotate_left; (· rintro w9 ⟨⟨u0, u1, u2, u3, u4, u5⟩, u6⟩; go_simp; (try rw [if_neg (by omega)]); all_goals (with_reducible rfl)); simp only [Act.put, List.setIfInBounds_toArray, List.set_cons_zero, List.set_cons_succ]) | (refine Plan.pass (by rfl) ?_; simp only [Act.put, List.setIfInBounds_toArray, List.set_cons_zero, List.set_cons_succ]))
            refine Plan.call (by rfl) 35 _ ?_ (HE.out _) ?_
            · go_simp
            rintro e9 v1 ⟨rfl, hb1⟩
            refine ⟨_, rfl, ⟨hatk.out v1 hb1, hpck.out v1 hb1⟩, ?_⟩
            simp only [Act.put, List.setIfInBounds_toArray, List.set_cons_zero, List.set_cons_succ]
            repeat (first | (refine Plan.take ?_ (by rfl) ?_ ?_; rotate_left; (· rintro w9 ⟨⟨u0, u1, u2, u3, u4, u5⟩, u6⟩; go_simp; (try rw [if_neg (by omega)]); all_goals (with_reducible rfl)); simp only [Act.put, List.setIfInBounds_toArray, List.set_cons_zero, List.set_cons_succ]) | (refine Plan.pass (by rfl) ?_; simp only [Act.put, List.setIfInBounds_toArray, List.set_cons_zero, List.set_cons_succ]))
            refine Plan.ends ?_
            have b9 := hb.drew.trans (hb1.mono hb.size)
            clear hat hpc
            go_wp2_with fail
            go_ret
            exact ⟨by rw [hR.out]; rfl, b9⟩
          · have hN := Lib.hid (hnx.out (hokF.2 (by omega)))
            have d3 : decide (b ≤ D) = false := by simpa using hBD
            clear hokF he
            go_wp2_with fail
            refine Plan.start (fun W => EntAt W x j ⟨b, k, v, m, z, o⟩ ∧ W.cell? (x.add (p * 6)) = some (.int .i64 D)) [(0, true), (1, true), (2, true), (3, true), (4, false), (5, true), (6, true), (7, true), (8, true), (9, true), (10, true), (11, true), (12, true), (13, true), (14, true), (15, true), (16, true), (17, true), (18, true), (19, true), (20, true), (21, true), (22, true), (23, true)] (by kernel_rfl) (by kernel_rfl) (by kernel_rfl) (by kernel_rfl) ⟨hat, hpc⟩ ?_
            simp only [List.map_cons, List.map_nil, List.getElem?_toArray, List.getElem?_cons_zero, List.getElem?_cons_succ]
            repeat (first | (refine Plan.take ?_ (by rfl) ?_ ?_; rotate_left; (· rintro w9 ⟨⟨u0, u1, u2, u3, u4, u5⟩, u6⟩; go_simp; (try rw [if_neg (by omega)]); all_goals (with_reducible rfl)); simp only [Act.put, List.setIfInBounds_toArray, List.set_cons_zero, List.set_cons_succ]) | (refine Plan.pass (by rfl) ?_; simp only [Act.put, List.setIfInBounds_toArray, List.set_cons_zero, List.set_cons_succ]))
            refine Plan.call (by rfl) 35 _ ?_ (HE.out _) ?_
            · go_simp
            rintro e9 v1 ⟨rfl, hb1⟩
            refine ⟨_, rfl, ⟨hatk.out v1 hb1, hpck.out v1 hb1⟩, ?_⟩
            simp only [Act.put, List.setIfInBounds_toArray, List.set_cons_zero, List.set_cons_succ]
            repeat (first | (refine Plan.take ?_ (by rfl) ?_ ?_; rotate_left; (· rintro w9 ⟨⟨u0, u1, u2, u3, u4, u5⟩, u6⟩; go_simp; (try rw [if_neg (by omega)]); all_goals (with_reducible rfl)); simp only [Act.put, List.setIfInBounds_toArray, List.set_cons_zero, List.set_cons_succ]) | (refine Plan.pass (by rfl) ?_; simp only [Act.put, List.setIfInBounds_toArray, List.set_cons_zero, List.set_cons_succ]))
            refine Plan.ends ?_
            have b9 := hb.drew.trans (hb1.mono hb.size)
            clear hat hpc
            go_wp2_with fail
            go_roundw
            case rel => exact ⟨j + 1, by go_num, by omega, hN, b9⟩
            case measure => simp [intOf]; omega
    · obtain rfl : j = len := by omega
      have hR := Lib.hid (HALL.out (fun i hi => hbf.out i (by omega)))
      go_wp2_with fail
      go_ret
      exact ⟨by rw [hR.out]; rfl, hb⟩
end Go.Proofs.Ytigmjpkhpoolkaa.Ents
