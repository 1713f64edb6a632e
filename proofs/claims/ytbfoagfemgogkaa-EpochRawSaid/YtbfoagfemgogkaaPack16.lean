/- Texts that belong together, part 16. -/
import Derived.Test.YtbfoagfemgogkaaPack15

/- The walks of the document's Ready and Forget of epochs. -/
namespace Go.Proofs.Ytbfoagfemgogkaa.Ents
open Go.RowKit Plan EntMath CntMath EpoMath Rws
/-- what Ready leaves -/
def RdyPost (w : World) (E : Epo) (r : Ending) (w' : World) : Prop := r = .returned (.tuple #[.int .i64 (readyZ E), .bool (readyB E)]) ∧ Below w.heap.size w w'
set_option maxHeartbeats 8000000 in
set_option maxRecDepth 20000 in
theorem refReady_any (F : Nat → Prop) (E : Epo) (g : Int) (a b : Option Addr) (n c m d : Nat) (w : World) (hl : PList w F g a n c b m d E) :
    Calls Try.prog 16 #[epoV g a n c b m d] w (RdyPost w E) := by
  have hlen := hl.z.length
  obtain rfl := hl.hg
  have hA := (Below.refl w.heap.size w).alloc (Nat.le_refl _) (epoRow E.glob a n c b m d)
  have hx0 := heap_alloc_new w (epoRow E.glob a n c b m d)
  have HV := Lib.hid (fun W (h : Below w.heap.size w W) => refEValid_any _ E E.glob a b n c m d W (hl.same h))
  have HZ := Lib.hid (fun W (h : Below w.heap.size w W) i (hi : i < m) => ret_at (hl.z.same h) i hi)
  have hcp := hl.z.cap
  unfold maxLen at hcp
  clear hl
  unfold RdyPost
  cases hva : validE E
  · have r1 : readyR E = none := by unfold readyR; rw [hva]; rfl
    rw [show readyZ E = 0 from by unfold readyZ; rw [r1]; rfl, show readyB E = false from by unfold readyB; rw [r1]; rfl]
    rw [hva] at HV
    generalize E.glob = g at *
    clear hva r1
    go_enter Try.func16, Try.ntmps16
    generalize hw0 : w.alloc (epoRow g a n c b m d) = w0 at *
    go_wp2_with (first
      | ((with_reducible refine Plan.load_lit 25 (.tmp 1) (w.heap.size) ?_ hx0 Try.underlying25 ?_ ?_ ?_); (· rfl); (· rfl); (· exact epo_info); simp only [Act.put, List.setIfInBounds_toArray, List.set_cons_zero, List.set_cons_succ])
      | (go_at_call 26; ((with_reducible refine (HV.out _ hA).mono ?_); rintro r9 w1 ⟨rfl, h1⟩; have b1 := hA.trans (h1.mono hA.size); have hx1 := e_on h1 hx0 (e_lt hx0); clear hx0 hw0 hA HV h1)))
    go_ret2
    exact ⟨rfl, b1⟩
  · have hhe := head_e hva
    have r1 : readyR E = E.zones.find? (old E.glob) := by unfold readyR; rw [if_pos hva]
    have hz0 : readyZ E = zOf (E.zones.find? (old E.glob)) := by unfold readyZ; rw [r1]
    have hb0 : readyB E = (E.zones.find? (old E.glob)).isSome := by unfold readyB; rw [r1]
    rw [hz0, hb0]
    rw [hva] at HV
    have hfa := fun j r (h : E.zones[j]? = some r) (hp : old E.glob r = true) hb => EpoMath.find_at (p := old E.glob) h hp hb
    have hfn := @EpoMath.find_none Ret (old E.glob) E.zones
    have HG := Lib.hid hhe.2.2
    clear hva r1 hz0 hb0 hhe
    generalize hQ : E.zones.find? (old E.glob) = Q at *
    have HFA := Lib.hid hfa
    have HNF := Lib.hid hfn
    clear hQ hfa hfn
    generalize E.glob = g at *
    have wg : wrap64 (g - 2) = g - 2 := by have := HG.out; unfold wrap64; omega
    have wg2 : IntKind.i64.wrap (g - 2) = g - 2 := IntWalk.i64_in _ (by have := HG.out; omega)
    go_enter Try.func16, Try.ntmps16
    generalize hw0 : w.alloc (epoRow g a n c b m d) = w0 at *
    go_wp2_with (first
      | ((with_reducible refine Plan.load_lit 25 (.tmp 1) (w.heap.size) ?_ hx0 Try.underlying25 ?_ ?_ ?_); (· rfl); (· rfl); (· exact epo_info); simp only [Act.put, List.setIfInBounds_toArray, List.set_cons_zero, List.set_cons_succ])
      | (go_at_call 26; ((with_reducible refine (HV.out _ hA).mono ?_); rintro r9 w1 ⟨rfl, h1⟩; have b1 := hA.trans (h1.mono hA.size); have hx1 := e_on h1 hx0 (e_lt hx0); clear hx0 hw0 hA HV h1)))
    go_loopw [4] (fun x wr => ∃ j : Nat, x = .int .i64 (j : Int) ∧ j ≤ m ∧ RowKit.Hid (∀ (i : Nat) (r : Ret), i < j → E.zones[i]? = some r → old g r = false) ∧ wr.heap[w.heap.size]? = some (epoRow g a n c b m d) ∧ Below w.heap.size w wr) (fun x _ => m - (intOf x).toNat)
    case atStart => exact ⟨0, rfl, by omega, Lib.hid (fun i r h => absurd h (Nat.not_lt_zero _)), hx1, b1⟩
    case round =>
      clear hx1 b1
      obtain ⟨j, rfl, hj, hbf, hr, hb⟩ := hrel
      obtain ⟨c0, c1, c2⟩ := three_row hr
      by_cases hlt : j < m
      · obtain ⟨x, r, rfl, hz, hat⟩ := HZ.out wr hb j hlt
        have hjI : (j : Int) < (m : Int) := by omega
        have HN := Lib.hid (fun hp => HFA.out j r hz hp (fun i y hi hy => hbf.out i y hi hy))
        have HX := Lib.hid (fun (h0 : old g r = false) (i : Nat) (y : Ret) (hi : i < j + 1) (h : E.zones[i]? = some y) => (show old g y = false from by
          rcases Nat.lt_or_ge i j with h1 | h1
          · exact hbf.out i y h1 h
          · obtain rfl : i = j := by omega
            rw [hz] at h
            obtain rfl := Option.some.inj h
            exact h0))
        clear hz
        obtain ⟨rz, re⟩ := r
        by_cases hq : re ≤ g - 2
        · have t1 : decide (re ≤ g - 2) = true := by simpa using hq
          have HR := Lib.hid (HN.out (by unfold old; exact t1))
          clear c0 c1 c2
          have c2 := (three_row hr).2.2
          go_wp2_with fail
          refine Plan.start (fun W => (W.cell? ⟨w.heap.size, 0, none⟩ = some (.int .i64 g) ∧ W.cell? ⟨w.heap.size, 1, none⟩ = some (.slice a n c) ∧ W.cell? ⟨w.heap.size, 2, none⟩ = some (.slice (some x) m d)) ∧ RetAt W x j ⟨rz, re⟩) [(0, true), (1, true), (2, true), (3, true), (4, true), (5, true), (6, true), (7, true), (8, true), (9, true)] (by kernel_rfl) (by kernel_rfl) (by kernel_rfl) (by kernel_rfl) ⟨three_row hr, hat⟩ ?_
          simp only [List.map_cons, List.map_nil, List.getElem?_toArray, List.getElem?_cons_zero, List.getElem?_cons_succ]
          repeat (first | (refine Plan.take ?_ (by rfl) ?_ ?_; rotate_left; (· rintro w9 ⟨⟨u0, u1, u2⟩, u3, u4⟩; go_simp; (try rw [if_neg (by omega)]); all_goals (with_reducible rfl)); simp only [Act.put, List.setIfInBounds_toArray, List.set_cons_zero, List.set_cons_succ]) | (refine Plan.pass (by rfl) ?_; simp only [Act.put, List.setIfInBounds_toArray, List.set_cons_zero, List.set_cons_succ]))
          refine Plan.ends ?_
          have hr2 : wr.drew.heap[w.heap.size]? = _ := hr
          have hat2 : RetAt wr.drew x j ⟨rz, re⟩ := hat
          have hb2 := hb.drew
          clear hr hat hb
          generalize wr.drew = w4 at *
          clear c2
          obtain ⟨c0, c1, c2⟩ := three_row hr2
          obtain ⟨d0, d1⟩ := hat2
          try simp only at d0 d1
          go_wp2_with fail
          go_ret2
          exact ⟨by rw [HR.out]; rfl, hb2⟩
        · have t1 : decide (re ≤ g - 2) = false := by simpa using hq
          have HM := Lib.hid (HX.out (by unfold old; exact t1))
          go_wp2_with fail
          refine Plan.start (fun W => (W.cell? ⟨w.heap.size, 0, none⟩ = some (.int .i64 g) ∧ W.cell? ⟨w.heap.size, 1, none⟩ = some (.slice a n c) ∧ W.cell? ⟨w.heap.size, 2, none⟩ = some (.slice (some x) m d)) ∧ RetAt W x j ⟨rz, re⟩) [(0, true), (1, true), (2, true), (3, true), (4, true), (5, true), (6, true), (7, true), (8, true), (9, true)] (by kernel_rfl) (by kernel_rfl) (by kernel_rfl) (by kernel_rfl) ⟨three_row hr, hat⟩ ?_
          simp only [List.map_cons, List.map_nil, List.getElem?_toArray, List.getElem?_cons_zero, List.getElem?_cons_succ]
          repeat (first | (refine Plan.take ?_ (by rfl) ?_ ?_; rotate_left; (· rintro w9 ⟨⟨u0, u1, u2⟩, u3, u4⟩; go_simp; (try rw [if_neg (by omega)]); all_goals (with_reducible rfl)); simp only [Act.put, List.setIfInBounds_toArray, List.set_cons_zero, List.set_cons_succ]) | (refine Plan.pass (by rfl) ?_; simp only [Act.put, List.setIfInBounds_toArray, List.set_cons_zero, List.set_cons_succ]))
          refine Plan.ends ?_
          have hr2 : wr.drew.heap[w.heap.size]? = _ := hr
          have hat2 : RetAt wr.drew x j ⟨rz, re⟩ := hat
          have hb2 := hb.drew
          clear hr hat hb
          generalize wr.drew = w4 at *
          clear c2
          obtain ⟨c0, c1, c2⟩ := three_row hr2
          obtain ⟨d0, d1⟩ := hat2
          try simp only at d0 d1
          go_wp2_with fail
          go_roundw
          case rel => exact ⟨j + 1, by go_num, by omega, HM, hr2, hb2⟩
          case measure => simp [intOf]; omega
      · obtain rfl : j = m := by omega
        have hjI : ¬ (j : Int) < (j : Int) := by omega
        have HR := Lib.hid (HNF.out (fun i r h => hbf.out i r (by have := (List.getElem?_eq_some_iff.1 h).1; omega) h))
        go_wp2_with fail
        go_ret2
        exact ⟨by rw [HR.out]; rfl, hb⟩
theorem forget_no {E : Epo} {z : Int} (h : forgetB E z = false) : forgetE E z = E := by unfold forgetE; rw [h]; rfl
theorem fgt_ways (E : Epo) (z : Int) : (readyB E = false ∧ forgetB E z = false) ∨ (readyB E = true ∧ ¬ readyZ E = z ∧ forgetB E z = false) ∨ (readyB E = true ∧ readyZ E = z ∧ forgetB E z = true) := by
  unfold forgetB
  cases readyB E
  · exact .inl ⟨rfl, rfl⟩
  · by_cases h : readyZ E = z
    · exact .inr (.inr ⟨rfl, h, by simpa using h⟩)
    · exact .inr (.inl ⟨rfl, h, by simpa using h⟩)
set_option maxHeartbeats 8000000 in
set_option maxRecDepth 20000 in
theorem refForget_any (F : Nat → Prop) (E : Epo) (z g : Int) (a b : Option Addr) (n c m d : Nat) (w : World) (hl : PList w F g a n c b m d E) (hm : m ≤ 100000) :
    Calls Try.prog 30 #[epoV g a n c b m d, .int .i64 z] w (EpoPost w F (forgetE E z) (forgetB E z)) := by
  have K := EpoW.start w (epoRow g a n c b m d)
  have hlen := hl.z.length
  have HR := Lib.hid (fun W (h : Below w.heap.size w W) => refReady_any _ E g a b n c m d W (hl.same h))
  have HEND := Lib.hid (fun W (h : Below w.heap.size w W) (cs : Array Value) => (show PList (W.setRow (w.heap.size + 1) cs) (Plus F w.heap.size) g a n c b m d E from
    ((hl.cut.on (Same.below (w' := W) h)).on (Same.row (r := w.heap.size + 1) (fun h9 => by have := h9.2; omega) cs)).mono (fun b _ h => .inl h.1)))
  unfold RdyPost at HR
  rcases fgt_ways E z with ⟨h1, h2⟩ | ⟨h1, h3, h2⟩ | ⟨h1, h3, h2⟩
  · rw [h2, forget_no h2]
    rw [h1] at HR
    generalize readyZ E = RZ at *
    clear hl h1 h2 hlen
    go_enter Try.func30, Try.ntmps30
    generalize hw0 : (w.alloc (epoRow g a n c b m d)).alloc (epoRow 0 none 0 0 none 0 0) = w0 at *
    go_wp2_with (first
      | ((with_reducible refine Plan.load_lit 25 (.tmp 2) (w.heap.size) ?_ K.hx Try.underlying25 ?_ ?_ ?_); (· rfl); (· rfl); (· exact epo_info); simp only [Act.put, List.setIfInBounds_toArray, List.set_cons_zero, List.set_cons_succ])
      | (go_at_call 16; ((with_reducible refine (HR.out _ K.hb).mono ?_); rintro r9 w1 ⟨rfl, h1⟩; have K1 := K.on h1; clear K hw0 HR h1; have K := K1; clear K1))
      | ((with_reducible refine Plan.store_lit 25 (.tmp 4) _ (w.heap.size + 1) ?_ K.hr ?_ ?_ ?_ ?_ ?_ ?_); rotate_left; (· rfl); (· rfl); (· exact epo_info); (· rfl); (· simp [Value.oneCell']); simp only [Act.put]))
    exact bodyPost_ret (Plan.results_cell_tmp (p := 4) (q := 5) rfl _ _ _ _ _ _ _ rfl (setRow_heap _ _ _ _ _ _ K.hr) Try.underlying25 rfl epo_info) rfl ⟨_, _, _, _, _, _, _, rfl, HEND.out _ K.hb _, below_setRow K.hb (show w.heap.size ≤ w.heap.size + 1 by omega) _⟩
  · rw [h2, forget_no h2]
    rw [h1] at HR
    generalize readyZ E = RZ at *
    have t1 : (RZ != z) = true := by simpa using h3
    clear hl h1 h2 hlen
    go_enter Try.func30, Try.ntmps30
    generalize hw0 : (w.alloc (epoRow g a n c b m d)).alloc (epoRow 0 none 0 0 none 0 0) = w0 at *
    go_wp2_with (first
      | ((with_reducible refine Plan.load_lit 25 (.tmp 2) (w.heap.size) ?_ K.hx Try.underlying25 ?_ ?_ ?_); (· rfl); (· rfl); (· exact epo_info); simp only [Act.put, List.setIfInBounds_toArray, List.set_cons_zero, List.set_cons_succ])
      | (go_at_call 16; ((with_reducible refine (HR.out _ K.hb).mono ?_); rintro r9 w1 ⟨rfl, h1⟩; have K1 := K.on h1; clear K hw0 HR h1; have K := K1; clear K1))
      | ((with_reducible refine Plan.store_lit 25 (.tmp 4) _ (w.heap.size + 1) ?_ K.hr ?_ ?_ ?_ ?_ ?_ ?_); rotate_left; (· rfl); (· rfl); (· exact epo_info); (· rfl); (· simp [Value.oneCell']); simp only [Act.put]))
    exact bodyPost_ret (Plan.results_cell_tmp (p := 4) (q := 5) rfl _ _ _ _ _ _ _ rfl (setRow_heap _ _ _ _ _ _ K.hr) Try.underlying25 rfl epo_info) rfl ⟨_, _, _, _, _, _, _, rfl, HEND.out _ K.hb _, below_setRow K.hb (show w.heap.size ≤ w.heap.size + 1 by omega) _⟩
  · have r2 : forgetE E z = ⟨g, E.pins, E.zones.filter (other z)⟩ := by unfold forgetE; rw [h2, hl.hg]; rfl
    rw [h2, r2]
    rw [h1] at HR
    have HZ := Lib.hid (fun W (h : Below w.heap.size w W) i (hi : i < m) => ret_at (hl.z.same h) i hi)
    have HPL := Lib.hid (fun W (h : Below w.heap.size w W) => (show IList W (fun b => F b ∧ b < w.heap.size) a n c E.pins from hl.p.cut.on (Same.below h)))
    have hcp := hl.z.cap
    unfold maxLen at hcp
    have hend : ∀ W v, W.ownsRow (w.heap.size + 2) RR.et RR.sz v ((E.zones.take m).filter (other z)).length (RR.all ((E.zones.take m).filter (other z))) → ∃ a n c, v = .slice a n c ∧ RList W (fun b => w.heap.size + 1 < b) a n c (E.zones.filter (other z)) := fun W v h => by
      obtain ⟨a9, c9, h9, hl9⟩ := owns_list (F := fun b => w.heap.size + 1 < b) rrOk h (fun b hb => by have := (h.lt b hb).1; omega)
      rw [List.take_of_length_le (by omega)] at h9 hl9
      exact ⟨_, _, _, h9, hl9⟩
    have HE := Lib.hid hend
    have HN := Lib.hid (fun j e (h : E.zones[j]? = some e) => filter_step h (other z))
    have hb0 : ∀ j, ((E.zones.take j).filter (other z)).length ≤ 900000 := fun j => Nat.le_trans (List.length_filter_le _ _) (by rw [List.length_take]; omega)
    have HB := Lib.hid hb0
    have hs0 : ([] : List Ret) = (E.zones.take 0).filter (other z) := by simp
    have HS := Lib.hid hs0
    generalize readyZ E = RZ at *
    have t1 : (RZ != z) = false := by simpa using h3
    clear hl h1 h2 hlen hend hb0 hs0 r2 HEND
    go_enter Try.func30, Try.ntmps30
    generalize hw0 : (w.alloc (epoRow g a n c b m d)).alloc (epoRow 0 none 0 0 none 0 0) = w0 at *
    go_wp2_with (first
      | ((with_reducible refine Plan.load_lit 25 (.tmp 2) (w.heap.size) ?_ K.hx Try.underlying25 ?_ ?_ ?_); (· rfl); (· rfl); (· exact epo_info); simp only [Act.put, List.setIfInBounds_toArray, List.set_cons_zero, List.set_cons_succ])
      | (go_at_call 16; ((with_reducible refine (HR.out _ K.hb).mono ?_); rintro r9 w1 ⟨rfl, h1⟩; have K1 := K.on h1; clear K hw0 HR h1; have K := K1; clear K1)))
    go_loopw [8, 9] (fun v x wr => ∃ j : Nat, x = .int .i64 (j : Int) ∧ j ≤ m ∧ wr.ownsRow (w.heap.size + 2) RR.et RR.sz v ((E.zones.take j).filter (other z)).length (RR.all ((E.zones.take j).filter (other z))) ∧ EpoW w wr (epoRow g a n c b m d)) (fun _ x _ => m - (intOf x).toNat)
    case atStart => exact ⟨0, rfl, by omega, (by rw [← HS.out]; exact own_none RR _ _), K⟩
    case round =>
      clear K
      obtain ⟨j, rfl, hj, hv, K⟩ := hrel
      obtain ⟨c0, c1, c2⟩ := three_row K.hx
      by_cases hlt : j < m
      · obtain ⟨x, r, rfl, hz, hat⟩ := HZ.out wr K.hb j hlt
        have hjI : (j : Int) < (m : Int) := by omega
        have N1 := HN.out j r hz
        have B1 := HB.out j
        generalize (E.zones.take j).filter (other z) = M at *
        clear hz
        obtain ⟨rz, re⟩ := r
        obtain ⟨d0, d1⟩ := hat
        try simp only at d0 d1
        by_cases hq : rz = z
        · have t2 : (rz != z) = false := by simpa using hq
          rw [show other z ⟨rz, re⟩ = false from by unfold other; simpa using hq] at N1
          have HN1 := Lib.hid (N1.trans (List.append_nil _))
          clear N1 hq
          go_wp2_with fail
          go_roundw
          case rel => exact ⟨j + 1, by go_num, by omega, by rw [HN1.out]; exact hv, K⟩
          case measure => simp [intOf]; omega
        · have t2 : (rz != z) = true := by simpa using hq
          rw [show other z ⟨rz, re⟩ = true from by unfold other; simpa using hq] at N1
          have HN1 := Lib.hid N1
          clear N1 hq
          have K1 := K.al (.cells #[.int .i64 rz, .int .i64 re] 48 (0, 0))
          have hv1 := e_owns_on hv ((Below.refl _ _).alloc (Nat.le_refl _) (.cells #[.int .i64 rz, .int .i64 re] 48 (0, 0)))
          have hlt9 := K.lt
          go_wp2_with (first
            | (at_builtin; refine append_one rrOk rfl (.tmp 38) (.tmp 44) rfl (w.heap.size + 2) _ _ M rfl hv1 wr.heap.size ⟨rz, re⟩ rfl (heap_alloc_new wr (.cells #[.int .i64 rz, .int .i64 re] 48 (0, 0))) B1 (by simp; omega) ?_; intro g9 k9 w9 hown9 hgrow9 hat9))
          have K9 := K1.grown hgrow9 (fun z9 h9 => by have h8 := (hv.lt z9 h9).1; omega)
          go_roundw
          case rel => exact ⟨j + 1, by go_num, by omega, by rw [HN1.out, if_pos rfl, List.length_append]; exact hown9, K9⟩
          case measure => simp [intOf]; omega
      · obtain rfl : j = m := by omega
        have hjI : ¬ (j : Int) < (j : Int) := by omega
        obtain ⟨a9, m9, c9, rfl, l9⟩ := HE.out _ _ hv
        generalize ((E.zones.take j).filter (other z)).length = q9 at *
        clear hv HZ
        go_wp2_with (first
          | ((with_reducible refine store_slice_c 23 (.tmp 47) (.tmp 46) w.heap.size 2 a9 m9 c9 ?_ ?_ ⟨_, (three_row K.hx).2.2⟩ (free_row_c K.hx) rets_info1 ?_); (· rfl); (· rfl); simp only [Act.put]; rw [setCell_eq_setRow _ _ _ _ _ _ _ K.hx]; simp only [List.setIfInBounds_toArray, List.set_cons_zero, List.set_cons_succ]; have K9 := K.put (XR := epoRow g a n c a9 m9 c9) rfl; have l8 := l9.on (Same.row (r := w.heap.size) (fun h => by omega) #[.int .i64 g, .slice a n c, .slice a9 m9 c9]); generalize wr.setRow w.heap.size #[.int .i64 g, .slice a n c, .slice a9 m9 c9] = w10 at *; clear K l9 c0 c1 c2; have K := K9; clear K9)
          | ((with_reducible refine Plan.load_lit 25 (.tmp 2) (w.heap.size) ?_ K.hx Try.underlying25 ?_ ?_ ?_); (· rfl); (· rfl); (· exact epo_info); simp only [Act.put, List.setIfInBounds_toArray, List.set_cons_zero, List.set_cons_succ])
          | ((with_reducible refine Plan.store_lit 25 (.tmp 4) _ (w.heap.size + 1) ?_ K.hr ?_ ?_ ?_ ?_ ?_ ?_); rotate_left; (· rfl); (· rfl); (· exact epo_info); (· rfl); (· simp [Value.oneCell']); simp only [Act.put]))
        exact bodyPost_ret (Plan.results_cell_tmp (p := 4) (q := 5) rfl _ _ _ _ _ _ _ rfl (setRow_heap _ _ _ _ _ _ K.hr) Try.underlying25 rfl epo_info) rfl ⟨_, _, _, _, _, _, _, rfl, ⟨rfl, ((HPL.out _ K.hb).on (Same.row (r := w.heap.size + 1) (fun h => by have := h.2; omega) _)).mono (fun b _ h => .inl h.1), (l8.on (Same.row (r := w.heap.size + 1) (fun h => Nat.lt_irrefl _ h) _)).mono (fun b _ h => .inr (by omega))⟩, below_setRow K.hb (show w.heap.size ≤ w.heap.size + 1 by omega) _⟩
end Go.Proofs.Ytbfoagfemgogkaa.Ents

/- The walks of the document's Advance, New and Same of epochs. -/
namespace Go.Proofs.Ytbfoagfemgogkaa.Ents
open Go.RowKit Plan EntMath CntMath EpoMath Rws
theorem adv_no {E : Epo} (h : advB E = false) : advE E = E := by unfold advE; rw [h]; rfl
set_option maxHeartbeats 8000000 in
set_option maxRecDepth 20000 in
theorem refAdvance_any (F : Nat → Prop) (E : Epo) (g : Int) (a b : Option Addr) (n c m d : Nat) (w : World) (hl : PList w F g a n c b m d E) :
    Calls Try.prog 29 #[epoV g a n c b m d] w (EpoPost w F (advE E) (advB E)) := by
  have K := EpoW.start w (epoRow g a n c b m d)
  have hlen := hl.p.length
  have HV := Lib.hid (fun W (h : Below w.heap.size w W) => refEValid_any _ E g a b n c m d W (hl.same h))
  have HEND := Lib.hid (fun W (h : Below w.heap.size w W) (cs : Array Value) => (show PList (W.setRow (w.heap.size + 1) cs) (Plus F w.heap.size) g a n c b m d E from
    ((hl.cut.on (Same.below (w' := W) h)).on (Same.row (r := w.heap.size + 1) (fun h9 => by have := h9.2; omega) cs)).mono (fun b _ h => .inl h.1)))
  cases hva : validE E
  · have r1 : advB E = false := by unfold advB; rw [hva]; rfl
    rw [r1, adv_no r1]
    rw [hva] at HV
    clear hl hlen hva r1
    go_enter Try.func29, Try.ntmps29
    generalize hw0 : (w.alloc (epoRow g a n c b m d)).alloc (epoRow 0 none 0 0 none 0 0) = w0 at *
    go_wp2_with (first
      | ((with_reducible refine Plan.load_lit 25 (.tmp 1) (w.heap.size) ?_ K.hx Try.underlying25 ?_ ?_ ?_); (· rfl); (· rfl); (· exact epo_info); simp only [Act.put, List.setIfInBounds_toArray, List.set_cons_zero, List.set_cons_succ])
      | (go_at_call 26; ((with_reducible refine (HV.out _ K.hb).mono ?_); rintro r9 w1 ⟨rfl, h1⟩; have K1 := K.on h1; clear K hw0 HV h1; have K := K1; clear K1; obtain ⟨c0, c1, c2⟩ := three_row K.hx))
      | ((with_reducible refine Plan.load_lit 25 (.tmp 1) (w.heap.size) ?_ K.hx Try.underlying25 ?_ ?_ ?_); (· rfl); (· rfl); (· exact epo_info); simp only [Act.put, List.setIfInBounds_toArray, List.set_cons_zero, List.set_cons_succ])
      | ((with_reducible refine Plan.store_lit 25 (.tmp 2) _ (w.heap.size + 1) ?_ K.hr ?_ ?_ ?_ ?_ ?_ ?_); rotate_left; (· rfl); (· rfl); (· exact epo_info); (· rfl); (· simp [Value.oneCell']); simp only [Act.put]))
    exact bodyPost_ret (Plan.results_cell_tmp (p := 2) (q := 3) rfl _ _ _ _ _ _ _ rfl (setRow_heap _ _ _ _ _ _ K.hr) Try.underlying25 rfl epo_info) rfl ⟨_, _, _, _, _, _, _, rfl, HEND.out _ K.hb _, below_setRow K.hb (show w.heap.size ≤ w.heap.size + 1 by omega) _⟩
  · rw [hva] at HV
    have hhe := head_e hva
    have hg := hl.hg
    by_cases hM : g = 1099511627776
    · have r1 : advB E = false := by unfold advB; rw [hg, decide_eq_true hM]; simp
      rw [r1, adv_no r1]
      have t1 : (g == 1099511627776) = true := by simpa using hM
      clear hl hlen hva r1 hhe hg hM
      go_enter Try.func29, Try.ntmps29
      generalize hw0 : (w.alloc (epoRow g a n c b m d)).alloc (epoRow 0 none 0 0 none 0 0) = w0 at *
      go_wp2_with (first
        | ((with_reducible refine Plan.load_lit 25 (.tmp 1) (w.heap.size) ?_ K.hx Try.underlying25 ?_ ?_ ?_); (· rfl); (· rfl); (· exact epo_info); simp only [Act.put, List.setIfInBounds_toArray, List.set_cons_zero, List.set_cons_succ])
        | (go_at_call 26; ((with_reducible refine (HV.out _ K.hb).mono ?_); rintro r9 w1 ⟨rfl, h1⟩; have K1 := K.on h1; clear K hw0 HV h1; have K := K1; clear K1; obtain ⟨c0, c1, c2⟩ := three_row K.hx))
        | ((with_reducible refine Plan.load_lit 25 (.tmp 1) (w.heap.size) ?_ K.hx Try.underlying25 ?_ ?_ ?_); (· rfl); (· rfl); (· exact epo_info); simp only [Act.put, List.setIfInBounds_toArray, List.set_cons_zero, List.set_cons_succ])
        | ((with_reducible refine Plan.store_lit 25 (.tmp 2) _ (w.heap.size + 1) ?_ K.hr ?_ ?_ ?_ ?_ ?_ ?_); rotate_left; (· rfl); (· rfl); (· exact epo_info); (· rfl); (· simp [Value.oneCell']); simp only [Act.put]))
      exact bodyPost_ret (Plan.results_cell_tmp (p := 2) (q := 3) rfl _ _ _ _ _ _ _ rfl (setRow_heap _ _ _ _ _ _ K.hr) Try.underlying25 rfl epo_info) rfl ⟨_, _, _, _, _, _, _, rfl, HEND.out _ K.hb _, below_setRow K.hb (show w.heap.size ≤ w.heap.size + 1 by omega) _⟩
    · have t1 : (g == 1099511627776) = false := by simpa using hM
      have r0 : advB E = E.pins.all (atG g) := by unfold advB; rw [hva, hg, decide_eq_false hM]; rfl
      have r2 : advE E = if E.pins.all (atG g) = true then ⟨g + 1, E.pins, E.zones⟩ else E := by unfold advE; rw [r0, hg]
      rw [r2, r0]
      have hpb := fun j p (he : E.pins[j]? = some p) => @EpoMath.all_bad Int (atG g) E.pins j p he
      have hpg := @EpoMath.all_good Int (atG g) E.pins
      have HP := Lib.hid (fun W (h : Below w.heap.size w W) i (hi : i < n) => (hl.p.same h).at' i hi)
      have HPL := Lib.hid (fun W (h : Below w.heap.size w W) (cs : Array Value) => (show PList ((W.setRow w.heap.size cs).setRow (w.heap.size + 1) cs) (Plus F w.heap.size) (g + 1) a n c b m d ⟨g + 1, E.pins, E.zones⟩ from
        ⟨rfl, ((((hl.p.cut.on (Same.below (w' := W) h)).on (Same.row (r := w.heap.size) (fun h9 => by have := h9.2; omega) cs)).on (Same.row (r := w.heap.size + 1) (fun h9 => by have := h9.2; omega) cs)).mono (fun b _ h => .inl h.1)), ((((hl.z.cut.on (Same.below (w' := W) h)).on (Same.row (r := w.heap.size) (fun h9 => by have := h9.2; omega) cs)).on (Same.row (r := w.heap.size + 1) (fun h9 => by have := h9.2; omega) cs)).mono (fun b _ h => .inl h.1))⟩))
      have hcp := hl.p.cap
      unfold maxLen at hcp
      have hw1 : wrap64 (g + 1) = g + 1 := by unfold wrap64; omega
      have hw2 : IntKind.i64.wrap (g + 1) = g + 1 := IntWalk.i64_in _ (by omega)
      generalize E.pins.all (atG g) = A at *
      obtain ⟨EA, hEA⟩ : ∃ EA, EA = if A = true then (⟨g + 1, E.pins, E.zones⟩ : Epo) else E := ⟨_, rfl⟩
      rw [← hEA]
      have HT := Lib.hid (fun (h : A = true) => (hEA.trans (if_pos h) : EA = ⟨g + 1, E.pins, E.zones⟩))
      have HF := Lib.hid (fun (h : A = false) => (hEA.trans (if_neg (by rw [h]; decide)) : EA = E))
      have HPB := Lib.hid hpb
      have HPG := Lib.hid hpg
      clear hl hva r0 r2 hhe hg hpb hpg hEA
      go_enter Try.func29, Try.ntmps29
      generalize hw0 : (w.alloc (epoRow g a n c b m d)).alloc (epoRow 0 none 0 0 none 0 0) = w0 at *
      go_wp2_with (first
        | ((with_reducible refine Plan.load_lit 25 (.tmp 1) (w.heap.size) ?_ K.hx Try.underlying25 ?_ ?_ ?_); (· rfl); (· rfl); (· exact epo_info); simp only [Act.put, List.setIfInBounds_toArray, List.set_cons_zero, List.set_cons_succ])
        | (go_at_call 26; ((with_reducible refine (HV.out _ K.hb).mono ?_); rintro r9 w1 ⟨rfl, h1⟩; have K1 := K.on h1; clear K hw0 HV h1; have K := K1; clear K1; obtain ⟨c0, c1, c2⟩ := three_row K.hx)))
      clear c0 c1 c2
      go_loopw [4] (fun x wr => ∃ j : Nat, x = .int .i64 (j : Int) ∧ j ≤ n ∧ RowKit.Hid (∀ (i : Nat) (p : Int), i < j → E.pins[i]? = some p → atG g p = true) ∧ EpoW w wr (epoRow g a n c b m d)) (fun x _ => n - (intOf x).toNat)
      case atStart => exact ⟨0, rfl, by omega, Lib.hid (fun i p h => absurd h (Nat.not_lt_zero _)), K⟩
      case round =>
        clear K
        obtain ⟨j, rfl, hj, hbf, K⟩ := hrel
        obtain ⟨c0, c1, c2⟩ := three_row K.hx
        by_cases hlt : j < n
        · obtain ⟨x, p, rfl, hz, hcx⟩ := HP.out wr K.hb j hlt
          have hjI : (j : Int) < (n : Int) := by omega
          have NB := Lib.hid (HPB.out j p hz)
          have NX := Lib.hid (fun (h0 : atG g p = true) (i : Nat) (y : Int) (hi : i < j + 1) (h : E.pins[i]? = some y) => (show atG g y = true from by
            rcases Nat.lt_or_ge i j with h1 | h1
            · exact hbf.out i y h1 h
            · obtain rfl : i = j := by omega
              rw [hz] at h
              obtain rfl := Option.some.inj h
              exact h0))
          clear hz
          rcases (show (p = -1) ∨ (p ≠ -1 ∧ p = g) ∨ (p ≠ -1 ∧ p ≠ g) by omega) with q1 | ⟨q1, q2⟩ | ⟨q1, q2⟩
          · have HN := Lib.hid (NX.out (by unfold atG; simp [q1]))
            have t2 : (p != -1) = false := by simpa using q1
            clear q1
            go_wp2_with fail
            refine Plan.start (fun W => (W.cell? ⟨w.heap.size, 0, none⟩ = some (.int .i64 g) ∧ W.cell? ⟨w.heap.size, 1, none⟩ = some (.slice (some x) n c) ∧ W.cell? ⟨w.heap.size, 2, none⟩ = some (.slice b m d)) ∧ W.cell? (x.add j) = some (.int .i64 p)) [(0, true), (1, true), (2, true), (3, true), (4, true), (5, true), (6, true), (7, true), (8, true), (9, true), (10, true), (11, true), (12, true), (13, true), (14, true), (15, true)] (by kernel_rfl) (by kernel_rfl) (by kernel_rfl) (by kernel_rfl) ⟨three_row K.hx, hcx⟩ ?_
            simp only [List.map_cons, List.map_nil, List.getElem?_toArray, List.getElem?_cons_zero, List.getElem?_cons_succ]
            repeat (first | (refine Plan.take ?_ (by rfl) ?_ ?_; rotate_left; (· rintro w9 ⟨⟨u0, u1, u2⟩, u3⟩; go_simp; (try rw [if_neg (by omega)]); all_goals (with_reducible rfl)); simp only [Act.put, List.setIfInBounds_toArray, List.set_cons_zero, List.set_cons_succ]) | (refine Plan.pass (by rfl) ?_; simp only [Act.put, List.setIfInBounds_toArray, List.set_cons_zero, List.set_cons_succ]))
            refine Plan.ends ?_
            have K9 := K.drew
            clear K hcx
            have K := K9
            clear K9
            clear c0 c1 c2
            obtain ⟨c0, c1, c2⟩ := three_row K.hx
            generalize wr.drew = w4 at *
            go_wp2_with fail
            go_roundw
            case rel => exact ⟨j + 1, by go_num, by omega, HN, K⟩
            case measure => simp [intOf]; omega
          · have HN := Lib.hid (NX.out (by unfold atG; simp [q2]))
            have t2 : (p != -1) = true := by simpa using q1
            have t3 : (p != g) = false := by simpa using q2
            clear q1 q2
            go_wp2_with fail
            refine Plan.start (fun W => (W.cell? ⟨w.heap.size, 0, none⟩ = some (.int .i64 g) ∧ W.cell? ⟨w.heap.size, 1, none⟩ = some (.slice (some x) n c) ∧ W.cell? ⟨w.heap.size, 2, none⟩ = some (.slice b m d)) ∧ W.cell? (x.add j) = some (.int .i64 p)) [(0, true), (1, true), (2, true), (3, true), (4, true), (5, true), (6, true), (7, true), (8, true), (9, true), (10, true), (11, true), (12, true), (13, true), (14, true), (15, true)] (by kernel_rfl) (by kernel_rfl) (by kernel_rfl) (by kernel_rfl) ⟨three_row K.hx, hcx⟩ ?_
            simp only [List.map_cons, List.map_nil, List.getElem?_toArray, List.getElem?_cons_zero, List.getElem?_cons_succ]
            repeat (first | (refine Plan.take ?_ (by rfl) ?_ ?_; rotate_left; (· rintro w9 ⟨⟨u0, u1, u2⟩, u3⟩; go_simp; (try rw [if_neg (by omega)]); all_goals (with_reducible rfl)); simp only [Act.put, List.setIfInBounds_toArray, List.set_cons_zero, List.set_cons_succ]) | (refine Plan.pass (by rfl) ?_; simp only [Act.put, List.setIfInBounds_toArray, List.set_cons_zero, List.set_cons_succ]))
            refine Plan.ends ?_
            have K9 := K.drew
            clear K hcx
            have K := K9
            clear K9
            clear c0 c1 c2
            obtain ⟨c0, c1, c2⟩ := three_row K.hx
            generalize wr.drew = w4 at *
            go_wp2_with fail
            go_roundw
            case rel => exact ⟨j + 1, by go_num, by omega, HN, K⟩
            case measure => simp [intOf]; omega
          · have hA := NB.out (by unfold atG; simp [q1, q2])
            have t2 : (p != -1) = true := by simpa using q1
            have t3 : (p != g) = true := by simpa using q2
            have HFa := Lib.hid (HF.out hA)
            clear HT HF
            subst hA
            clear q1 q2
            go_wp2_with fail
            refine Plan.start (fun W => (W.cell? ⟨w.heap.size, 0, none⟩ = some (.int .i64 g) ∧ W.cell? ⟨w.heap.size, 1, none⟩ = some (.slice (some x) n c) ∧ W.cell? ⟨w.heap.size, 2, none⟩ = some (.slice b m d)) ∧ W.cell? (x.add j) = some (.int .i64 p)) [(0, true), (1, true), (2, true), (3, true), (4, true), (5, true), (6, true), (7, true), (8, true), (9, true), (10, true), (11, true), (12, true), (13, true), (14, true), (15, true)] (by kernel_rfl) (by kernel_rfl) (by kernel_rfl) (by kernel_rfl) ⟨three_row K.hx, hcx⟩ ?_
            simp only [List.map_cons, List.map_nil, List.getElem?_toArray, List.getElem?_cons_zero, List.getElem?_cons_succ]
            repeat (first | (refine Plan.take ?_ (by rfl) ?_ ?_; rotate_left; (· rintro w9 ⟨⟨u0, u1, u2⟩, u3⟩; go_simp; (try rw [if_neg (by omega)]); all_goals (with_reducible rfl)); simp only [Act.put, List.setIfInBounds_toArray, List.set_cons_zero, List.set_cons_succ]) | (refine Plan.pass (by rfl) ?_; simp only [Act.put, List.setIfInBounds_toArray, List.set_cons_zero, List.set_cons_succ]))
            refine Plan.ends ?_
            have K9 := K.drew
            clear K hcx
            have K := K9
            clear K9
            clear c0 c1 c2
            obtain ⟨c0, c1, c2⟩ := three_row K.hx
            generalize wr.drew = w4 at *
            go_wp2_with (first
              | ((with_reducible refine Plan.load_lit 25 (.tmp 1) (w.heap.size) ?_ K.hx Try.underlying25 ?_ ?_ ?_); (· rfl); (· rfl); (· exact epo_info); simp only [Act.put, List.setIfInBounds_toArray, List.set_cons_zero, List.set_cons_succ])
              | ((with_reducible refine Plan.store_lit 25 (.tmp 2) _ (w.heap.size + 1) ?_ K.hr ?_ ?_ ?_ ?_ ?_ ?_); rotate_left; (· rfl); (· rfl); (· exact epo_info); (· rfl); (· simp [Value.oneCell']); simp only [Act.put]))
            exact bodyPost_ret (Plan.results_cell_tmp (p := 2) (q := 3) rfl _ _ _ _ _ _ _ rfl (setRow_heap _ _ _ _ _ _ K.hr) Try.underlying25 rfl epo_info) rfl ⟨_, _, _, _, _, _, _, rfl, by rw [HFa.out]; exact HEND.out _ K.hb _, below_setRow K.hb (show w.heap.size ≤ w.heap.size + 1 by omega) _⟩
        · obtain rfl : j = n := by omega
          have hjI : ¬ (j : Int) < (j : Int) := by omega
          have hA := HPG.out (fun i p hp => hbf.out i p (by have := (List.getElem?_eq_some_iff.1 hp).1; omega) hp)
          have HTa := Lib.hid (HT.out hA)
          clear HT HF
          subst hA
          clear HPB HPG HP hbf
          go_wp2_with (first
            | ((with_reducible refine store_int_c 3 (.tmp 41) (.tmp 40) w.heap.size 0 .i64 (g + 1) ?_ ?_ ⟨_, (three_row K.hx).1⟩ (free_row_c K.hx) Put.int_info1 ?_); (· rfl); (· rfl); simp only [Act.put]; rw [setCell_eq_setRow _ _ _ _ _ _ _ K.hx]; simp only [List.setIfInBounds_toArray, List.set_cons_zero]; have K9 := K.put (XR := epoRow (g + 1) a j c b m d) rfl; have LL := HPL.out _ K.hb #[.int .i64 (g + 1), .slice a j c, .slice b m d]; generalize wr.setRow w.heap.size #[.int .i64 (g + 1), .slice a j c, .slice b m d] = w10 at *; clear K c0 c1 c2; have K := K9; clear K9)
            | ((with_reducible refine Plan.load_lit 25 (.tmp 1) (w.heap.size) ?_ K.hx Try.underlying25 ?_ ?_ ?_); (· rfl); (· rfl); (· exact epo_info); simp only [Act.put, List.setIfInBounds_toArray, List.set_cons_zero, List.set_cons_succ])
            | ((with_reducible refine Plan.store_lit 25 (.tmp 2) _ (w.heap.size + 1) ?_ K.hr ?_ ?_ ?_ ?_ ?_ ?_); rotate_left; (· rfl); (· rfl); (· exact epo_info); (· rfl); (· simp [Value.oneCell']); simp only [Act.put]))
          exact bodyPost_ret (Plan.results_cell_tmp (p := 2) (q := 3) rfl _ _ _ _ _ _ _ rfl (setRow_heap _ _ _ _ _ _ K.hr) Try.underlying25 rfl epo_info) rfl ⟨_, _, _, _, _, _, _, rfl, by rw [HTa.out]; exact LL, below_setRow K.hb (show w.heap.size ≤ w.heap.size + 1 by omega) _⟩
theorem ret_eql (o f : Ret) (w : World) : (binOp .neq 48 (retV o) (retV f)).run Try.prog w = .ok (.bool (!decide (o = f))) w := by
  obtain ⟨z1, e1⟩ := o
  obtain ⟨z2, e2⟩ := f
  have hd : decide ((⟨z1, e1⟩ : Ret) = ⟨z2, e2⟩) = (decide (z1 = z2) && decide (e1 = e2)) := by
    rw [← Bool.decide_and]
    refine decide_eq_decide.2 ?_
    rw [Ret.mk.injEq]
  rw [hd]
  go_simp
  repeat' split
  all_goals simp_all
set_option maxHeartbeats 8000000 in
set_option maxRecDepth 20000 in
theorem refESame_any (F G : Nat → Prop) (E : Epo) (g g' : Int) (a b a' b' : Option Addr) (n c m d n' c' m' d' : Nat) (w : World) (hl : PList w F g a n c b m d E) (hk : PList w G g' a' n' c' b' m' d' E) :
    Calls Try.prog 12 #[epoV g a n c b m d, epoV g' a' n' c' b' m' d'] w fun r w' => r = .returned (.bool true) ∧ Below w.heap.size w w' := by
  obtain rfl : g = g' := hl.hg.symm.trans hk.hg
  obtain rfl : n = n' := hl.p.length.symm.trans hk.p.length
  obtain rfl : m = m' := hl.z.length.symm.trans hk.z.length
  have hlen := hl.p.length
  have hlen2 := hl.z.length
  have hA := heap2e w (epoRow g a n c b m d) (epoRow g a' n c' b' m d')
  have hx0 := heap_first w (epoRow g a n c b m d) (epoRow g a' n c' b' m d')
  have hy0 := heap_second w (epoRow g a n c b m d) (epoRow g a' n c' b' m d')
  have HP := Lib.hid (fun W (h : Below w.heap.size w W) i (hi : i < n) => (hl.p.same h).at' i hi)
  have HP2 := Lib.hid (fun W (h : Below w.heap.size w W) i (hi : i < n) => (hk.p.same h).at' i hi)
  have HZ := Lib.hid (fun W (h : Below w.heap.size w W) i (hi : i < m) => ret_at (hl.z.same h) i hi)
  have HZ2 := Lib.hid (fun W (h : Below w.heap.size w W) i (hi : i < m) => ret_at (hk.z.same h) i hi)
  have hcp := hl.p.cap
  have hcp2 := hl.z.cap
  unfold maxLen at hcp hcp2
  clear hl hk
  go_enter Try.func12, Try.ntmps12
  obtain ⟨c0, c1, c2⟩ := three_row hx0
  obtain ⟨d0, d1, d2⟩ := three_row hy0
  generalize hw0 : (w.alloc (epoRow g a n c b m d)).alloc (epoRow g a' n c' b' m d') = w0 at *
  go_wp2_with fail
  clear c0 c1 c2 d0 d1 d2
  go_loopw [5] (fun x wr => ∃ j : Nat, x = .int .i64 (j : Int) ∧ j ≤ n ∧ wr.heap[w.heap.size]? = some (epoRow g a n c b m d) ∧ wr.heap[w.heap.size + 1]? = some (epoRow g a' n c' b' m d') ∧ Below w.heap.size w wr) (fun x _ => n - (intOf x).toNat)
  case atStart => exact ⟨0, rfl, by omega, hx0, hy0, hA⟩
  case round =>
    clear hx0 hy0 hA hw0
    obtain ⟨j, rfl, hj, hx, hy, hb⟩ := hrel
    obtain ⟨c0, c1, c2⟩ := three_row hx
    by_cases hlt : j < n
    · obtain ⟨x, p, rfl, hz, hcx⟩ := HP.out wr hb j hlt
      obtain ⟨y, p', rfl, hz', hcy⟩ := HP2.out wr hb j hlt
      rw [hz] at hz'
      obtain rfl := Option.some.inj hz'
      have hjI : (j : Int) < (n : Int) := by omega
      clear hz
      go_wp2_with fail
      refine Plan.start (fun W => (W.cell? ⟨w.heap.size, 1, none⟩ = some (.slice (some x) n c) ∧ W.cell? ⟨w.heap.size + 1, 1, none⟩ = some (.slice (some y) n c')) ∧ W.cell? (x.add j) = some (.int .i64 p) ∧ W.cell? (y.add j) = some (.int .i64 p)) [(0, true), (1, true), (2, true), (3, true), (4, true), (5, true), (6, true), (7, true), (8, true), (9, true), (10, true)] (by kernel_rfl) (by kernel_rfl) (by kernel_rfl) (by kernel_rfl) ⟨⟨(three_row hx).2.1, (three_row hy).2.1⟩, hcx, hcy⟩ ?_
      simp only [List.map_cons, List.map_nil, List.getElem?_toArray, List.getElem?_cons_zero, List.getElem?_cons_succ]
      repeat (first | (refine Plan.take ?_ (by rfl) ?_ ?_; rotate_left; (· rintro w9 ⟨⟨u0, u1⟩, u2, u3⟩; go_simp; (try rw [if_neg (by omega)]); all_goals (with_reducible rfl)); simp only [Act.put, List.setIfInBounds_toArray, List.set_cons_zero, List.set_cons_succ]) | (refine Plan.pass (by rfl) ?_; simp only [Act.put, List.setIfInBounds_toArray, List.set_cons_zero, List.set_cons_succ]))
      refine Plan.ends ?_
      have hx2 : wr.drew.heap[w.heap.size]? = _ := hx
      have hy2 : wr.drew.heap[w.heap.size + 1]? = _ := hy
      have hb2 := hb.drew
      go_wp2_with fail
      go_roundw
      case rel => exact ⟨j + 1, by go_num, by omega, hx2, hy2, hb2⟩
      case measure => simp [intOf]; omega
    · obtain rfl : j = n := by omega
      have hjI : ¬ (j : Int) < (j : Int) := by omega
      clear HP HP2
      go_wp2_with fail
      clear c0 c1 c2
      go_loopw [6] (fun x wr => ∃ i : Nat, x = .int .i64 (i : Int) ∧ i ≤ m ∧ wr.heap[w.heap.size]? = some (epoRow g a j c b m d) ∧ wr.heap[w.heap.size + 1]? = some (epoRow g a' j c' b' m d') ∧ Below w.heap.size w wr) (fun x _ => m - (intOf x).toNat)
      case atStart => exact ⟨0, rfl, by omega, hx, hy, hb⟩
      case round =>
        clear hx hy hb
        obtain ⟨i, rfl, hi, hx, hy, hb⟩ := hrel
        obtain ⟨c0, c1, c2⟩ := three_row hx
        by_cases hlt : i < m
        · obtain ⟨x, r, rfl, hz, hat⟩ := HZ.out wr hb i hlt
          obtain ⟨y, r', rfl, hz', hat2⟩ := HZ2.out wr hb i hlt
          rw [hz] at hz'
          obtain rfl := Option.some.inj hz'
          have hiI : (i : Int) < (m : Int) := by omega
          have hEQ := fun W => ret_eql r r W
          rw [decide_eq_true rfl] at hEQ
          clear hz
          obtain ⟨rz, re⟩ := r
          go_wp2_with fail
          refine Plan.start (fun W => (W.cell? ⟨w.heap.size, 2, none⟩ = some (.slice (some x) m d) ∧ W.cell? ⟨w.heap.size + 1, 2, none⟩ = some (.slice (some y) m d')) ∧ RetAt W x i ⟨rz, re⟩ ∧ RetAt W y i ⟨rz, re⟩) [(0, true), (1, true), (2, true), (3, true), (4, true), (5, true), (6, true), (7, true), (8, true), (9, true), (10, true)] (by kernel_rfl) (by kernel_rfl) (by kernel_rfl) (by kernel_rfl) ⟨⟨(three_row hx).2.2, (three_row hy).2.2⟩, hat, hat2⟩ ?_
          simp only [List.map_cons, List.map_nil, List.getElem?_toArray, List.getElem?_cons_zero, List.getElem?_cons_succ]
          repeat (first | (refine Plan.take ?_ (by rfl) ?_ ?_; rotate_left; (· rintro w9 ⟨⟨u0, u1⟩, ⟨u2, u3⟩, u4, u5⟩; go_simp; (try rw [if_neg (by omega)]); all_goals (with_reducible rfl)); simp only [Act.put, List.setIfInBounds_toArray, List.set_cons_zero, List.set_cons_succ]) | (refine Plan.pass (by rfl) ?_; simp only [Act.put, List.setIfInBounds_toArray, List.set_cons_zero, List.set_cons_succ]))
          refine Plan.ends ?_
          have hx2 : wr.drew.heap[w.heap.size]? = _ := hx
          have hy2 : wr.drew.heap[w.heap.size + 1]? = _ := hy
          have hb2 := hb.drew
          go_wp2_with fail
          go_roundw
          case rel => exact ⟨i + 1, by go_num, by omega, hx2, hy2, hb2⟩
          case measure => simp [intOf]; omega
        · obtain rfl : i = m := by omega
          have hiI : ¬ (i : Int) < (i : Int) := by omega
          go_wp2_with fail
          go_ret
          exact ⟨rfl, hb⟩
end Go.Proofs.Ytbfoagfemgogkaa.Ents

/- The walk of the document's New of epochs. -/
namespace Go.Proofs.Ytbfoagfemgogkaa.Ents
open Go.RowKit Plan EntMath CntMath EpoMath Rws
/-- what New leaves -/
def ENewPost (w : World) (E : Epo) (e : Int) (r : Ending) (w' : World) : Prop :=
  ∃ g a n c b m d, r = .returned (.tuple #[epoV g a n c b m d, .int .i64 e]) ∧ PList w' (fun b => w.heap.size ≤ b) g a n c b m d E ∧ Below w.heap.size w w'
set_option maxHeartbeats 8000000 in
set_option maxRecDepth 20000 in
theorem refENew_any (s : Int) (w : World) : Calls Try.prog 11 #[.int .i64 s] w (ENewPost w (newE s) (newEE s)) := by
  have hA := (Below.refl w.heap.size w).alloc (Nat.le_refl _) (epoRow 0 none 0 0 none 0 0)
  have hr0 := heap_alloc_new w (epoRow 0 none 0 0 none 0 0)
  by_cases hs : 1 ≤ s ∧ s ≤ 4
  · obtain ⟨n, rfl⟩ : ∃ n : Nat, s = (n : Int) := ⟨s.toNat, by omega⟩
    have h1 : newE (n : Int) = ⟨0, List.replicate n (-1), []⟩ := by unfold newE; rw [if_pos hs, Int.toNat_natCast]
    have h2 : newEE (n : Int) = 0 := if_pos hs
    rw [h1, h2]
    have hmk := fun w => run_make_row' (P := Try.prog) 22 3 (.int .i64 0) 8 Try.underlying22 int_row rfl .i64 .i64 n (by omega) (by omega) w
    have hg1 : decide ((n : Int) < 1) = false := by simp; omega
    have hg2 : decide ((4 : Int) < (n : Int)) = false := by simp; omega
    have hg3 : ¬ (n : Int) < 1 := by omega
    have hg4 : ¬ (4 : Int) < (n : Int) := by omega
    have hg5 : decide (4 < n) = false := by simp; omega
    have hnm : n ≤ maxLen := by unfold maxLen; omega
    have hn1 : 1 ≤ n := by omega
    have hn2 : n ≤ 4 := by omega
    clear h1 h2 hs
    go_enter Try.func11, Try.ntmps11
    generalize hw0 : w.alloc (epoRow 0 none 0 0 none 0 0) = w0 at *
    have hz0 : w.heap.size < w0.heap.size := e_lt hr0
    go_wp2_with fail
    rw [show (Obj.cells (madeCells #[.int .i64 0] n) 3) = intRow (List.replicate n 0) from zero_row n]
    have G1 := heap_first w0 (intRow (List.replicate n 0)) (epoRow 0 (some ⟨w0.heap.size, 0, none⟩) n n none 0 0)
    have G2 := heap_second w0 (intRow (List.replicate n 0)) (epoRow 0 (some ⟨w0.heap.size, 0, none⟩) n n none 0 0)
    have hr2 := e_al (e_al hr0 (intRow (List.replicate n 0))) (epoRow 0 (some ⟨w0.heap.size, 0, none⟩) n n none 0 0)
    have hb0 := hA.alloc hA.size (intRow (List.replicate n 0))
    have hb := hb0.alloc hb0.size (epoRow 0 (some ⟨w0.heap.size, 0, none⟩) n n none 0 0)
    have kX : w0.heap.size ≠ w0.heap.size + 1 := by omega
    have kX2 : w.heap.size < w0.heap.size + 1 := by omega
    clear hmk hw0 hA hr0 hb0
    generalize (w0.alloc (intRow (List.replicate n 0))).alloc (epoRow 0 (some ⟨w0.heap.size, 0, none⟩) n n none 0 0) = w3 at *
    generalize w0.heap.size + 1 = X at *
    generalize w0.heap.size = g at *
    go_loopw [5] (fun x wr => ∃ (j : Nat) (Z : List Int), x = .int .i64 (j : Int) ∧ j ≤ n ∧ Z.length = n ∧ RowKit.Hid (∀ i : Nat, i < j → Z[i]? = some (-1)) ∧ wr.heap[w.heap.size]? = some (epoRow 0 none 0 0 none 0 0) ∧ wr.heap[X]? = some (epoRow 0 (some ⟨g, 0, none⟩) n n none 0 0) ∧ wr.heap[g]? = some (intRow Z) ∧ Below w.heap.size w wr) (fun x _ => n - (intOf x).toNat)
    case atStart => exact ⟨0, _, rfl, by omega, List.length_replicate .., Lib.hid (fun i h => absurd h (Nat.not_lt_zero _)), hr2, G2, G1, hb⟩
    case round =>
      clear hr2 G2 G1 hb
      obtain ⟨j, Z, rfl, hj, hZ, hall, hr, hX, hg, hb⟩ := hrel
      by_cases hlt : j < n
      · have hjI : (j : Int) < (n : Int) := by omega
        obtain ⟨y, hy⟩ : ∃ y, Z[j]? = some y := ⟨_, List.getElem?_eq_getElem (by omega)⟩
        have hgc := row_cell hg hy
        obtain ⟨c0, c1, c2⟩ := three_row hX
        have HN := Lib.hid (show ∀ i : Nat, i < j + 1 → (Z.set j (-1))[i]? = some (-1) from fun i hi => by
          rw [List.getElem?_set]
          by_cases h : j = i
          · subst h
            rw [if_pos rfl, if_pos (by omega)]
          · rw [if_neg h]
            exact hall.out i (by omega))
        go_wp2_with (first
          | ((with_reducible refine store_int_c 3 (.tmp 24) (.const (.int .i64 (-1))) g j .i64 (-1) ?_ ?_ ⟨_, hgc⟩ (free_row_c hg) Put.int_info1 ?_); (· rfl); (· rfl); simp only [Act.put]; rw [setCell_eq_setRow _ _ _ _ _ _ _ hg]; rw [show (intC Z).toArray.setIfInBounds j (.int .i64 (-1)) = (intC (Z.set j (-1))).toArray from by rw [List.setIfInBounds_toArray, intC_set]]; have hX := (setRow_other wr g X (intC (Z.set j (-1))).toArray (Ne.symm kX)).trans hX; have hr := (setRow_other wr g w.heap.size (intC (Z.set j (-1))).toArray (by omega)).trans hr; have hg := setRow_heap wr g _ (intC (Z.set j (-1))).toArray _ _ hg; have hb := below_setRow hb (show w.heap.size ≤ g by omega) (intC (Z.set j (-1))).toArray; clear hgc c0 c1 c2; generalize wr.setRow g (intC (Z.set j (-1))).toArray = w8 at *))
        go_roundw
        case rel => exact ⟨j + 1, Z.set j (-1), by go_num, by omega, by rw [List.length_set, hZ], HN, hr, hX, hg, hb⟩
        case measure => simp [intOf]; omega
      · obtain rfl : j = n := by omega
        obtain rfl := all_is hZ hall.out
        have hrI : ¬ (j : Int) < (j : Int) := by omega
        go_wp2_with (first
          | ((with_reducible refine Plan.load_lit 25 (.tmp 4) (X) ?_ hX Try.underlying25 ?_ ?_ ?_); (· rfl); (· rfl); (· exact epo_info); simp only [Act.put, List.setIfInBounds_toArray, List.set_cons_zero, List.set_cons_succ])
          | ((with_reducible refine Plan.store_lit 25 (.tmp 2) _ (w.heap.size) ?_ hr ?_ ?_ ?_ ?_ ?_ ?_); rotate_left; (· rfl); (· rfl); (· exact epo_info); (· rfl); (· simp [Value.oneCell']); simp only [Act.put]))
        have g3 := (setRow_other wr w.heap.size g #[.int .i64 0, .slice (some ⟨g, 0, none⟩) j j, .slice none 0 0] (by omega)).trans hg
        exact bodyPost_ret (Plan.results_cell_tmp (p := 2) (q := 3) rfl _ _ _ _ _ _ _ rfl (setRow_heap _ _ _ _ _ _ hr) Try.underlying25 rfl epo_info) rfl ⟨_, _, _, _, _, _, _, rfl, ⟨rfl, row_ilist g3 (by simp) hnm (by omega), TList.nil _ _⟩, below_setRow hb (Nat.le_refl _) _⟩
  · have h1 : newE s = ⟨0, [], []⟩ := if_neg hs
    have h2 : newEE s = 1 := if_neg hs
    rw [h1, h2]
    clear h1 h2
    rcases (show s < 1 ∨ (¬ s < 1 ∧ 4 < s) by omega) with h | ⟨h, h3⟩
    · have d1 : decide (s < 1) = true := by simpa using h
      go_enter Try.func11, Try.ntmps11
      go_wp2_with (first
        | ((with_reducible refine Plan.store_lit 25 (.tmp 2) _ (w.heap.size) ?_ hr0 ?_ ?_ ?_ ?_ ?_ ?_); rotate_left; (· rfl); (· rfl); (· exact epo_info); (· rfl); (· simp [Value.oneCell']); simp only [Act.put]))
      exact bodyPost_ret (Plan.results_cell_tmp (p := 2) (q := 3) rfl _ _ _ _ _ _ _ rfl (setRow_heap _ _ _ _ _ _ hr0) Try.underlying25 rfl epo_info) rfl ⟨_, _, _, _, _, _, _, rfl, ⟨rfl, IList.nil _ _, TList.nil _ _⟩, below_setRow hA (Nat.le_refl _) _⟩
    · have d1 : decide (s < 1) = false := by simpa using h
      have d2 : decide (4 < s) = true := by simpa using h3
      go_enter Try.func11, Try.ntmps11
      go_wp2_with (first
        | ((with_reducible refine Plan.store_lit 25 (.tmp 2) _ (w.heap.size) ?_ hr0 ?_ ?_ ?_ ?_ ?_ ?_); rotate_left; (· rfl); (· rfl); (· exact epo_info); (· rfl); (· simp [Value.oneCell']); simp only [Act.put]))
      exact bodyPost_ret (Plan.results_cell_tmp (p := 2) (q := 3) rfl _ _ _ _ _ _ _ rfl (setRow_heap _ _ _ _ _ _ hr0) Try.underlying25 rfl epo_info) rfl ⟨_, _, _, _, _, _, _, rfl, ⟨rfl, IList.nil _ _, TList.nil _ _⟩, below_setRow hA (Nat.le_refl _) _⟩
end Go.Proofs.Ytbfoagfemgogkaa.Ents
