/- Texts that belong together, part 39. -/
import Derived.Test.YtnmhnjjehglcfaaGreatPack38
import Derived.Shelf.Sort.Plain
import Derived.Sort.OwnSorted

/- The walk of the program's Find. -/
namespace Go.Proofs.YtnmhnjjehglcfaaGreat.Ents
open Go.RowKit Plan HisMath LinMath ModMath CmdMath Rws Env LayMath SrchM
theorem fnd_no {B : List ByteArray} {L : List Ev} {w w' : World} (hb : Below w.heap.size w w') (h : ¬ CanP B L) : FndPost B L w (.returned (.tuple #[.slice none 0 0, .bool false])) w' :=
  ⟨none, 0, 0, [], false, rfl, TList.nil _ _, hb, ⟨fun h => (by cases h), fun h9 => absurd h9 h⟩, fun h => (by cases h), fun _ => rfl⟩
theorem env_keep_one {w W W' : World} {F : Nat → Prop} {T : List Thing} {mb : Nat} {f : Int → Option Value} (_ : Env w W T) (K2 : Env W W' [imapT mb f]) : Keep w F W T W' (imapT mb f :: T) :=
  ⟨K2.hb.size, fun b hb => ⟨hb.1, Nat.lt_of_lt_of_le hb.2.1 K2.hb.size, fun x hx => by
    rcases List.mem_cons.1 hx with rfl | hx
    · intro h9
      obtain rfl : b = mb := h9
      have h1 := ((K2.at' 0 rfl).2.1 b rfl).1
      have h2 := hb.2.1
      omega
    · exact hb.2.2 x hx⟩, fun b hb => K2.hb.block b hb.2.1⟩
theorem RowsAt.snoc {P : Nat → Prop} {W : World} {SS : List (Option Addr × Nat × Nat)} {RR : List (List Int)} (h : RowsAt P W SS RR) {s : Option Addr × Nat × Nat} {l : List Int} (ht : TList IR W P s.1 s.2.1 s.2.2 l) : RowsAt P W (SS ++ [s]) (RR ++ [l]) := by
  refine ⟨by simp [h.1], fun i s' hi => ?_⟩
  by_cases hlt : i < SS.length
  · rw [List.getElem?_append_left hlt] at hi
    obtain ⟨l', h1, h2⟩ := h.2 i s' hi
    exact ⟨l', by rw [List.getElem?_append_left (by rw [← h.1]; exact hlt)]; exact h1, h2⟩
  · have hi2 := (List.getElem?_eq_some_iff.1 hi).1
    rw [List.length_append, List.length_singleton] at hi2
    obtain rfl : i = SS.length := by omega
    rw [List.getElem?_append_right (Nat.le_refl _), Nat.sub_self] at hi
    obtain rfl : s = s' := Option.some.inj hi
    exact ⟨l, by rw [h.1, List.getElem?_append_right (Nat.le_refl _), Nat.sub_self]; rfl, ht⟩
/-- the rows while Find gathers them -/
def FRow (B : List ByteArray) (L : List Ev) (fl : List Int) (RR : List (List Int)) (j : Nat) : Prop :=
  RR.length = j + 1 ∧ RR[0]? = some fl ∧ (∀ (b : Nat) v, b < j → B[b]? = some v → ∃ ob, RR[b + 1]? = some ob ∧ linE [v] (aloneE L (b : Int)) ob = 0 ∧ (opsE (aloneE L (b : Int)) (aloneE L (b : Int)).length).length ≤ 20) ∧ totL RR ≤ 400 * (j + 1)
theorem tot_snoc (RR : List (List Int)) (l : List Int) : totL (RR ++ [l]) = totL RR + l.length := by simp [totL]
theorem frow_zero {B : List ByteArray} {L : List Ev} {fl : List Int} (h : fl.length ≤ 400) : FRow B L fl [fl] 0 :=
  ⟨rfl, rfl, fun b v hb => absurd hb (Nat.not_lt_zero _), by simp [totL]; omega⟩
theorem frow_next {B : List ByteArray} {L : List Ev} {fl : List Int} {RR : List (List Int)} {j : Nat} (h : FRow B L fl RR j) {v : ByteArray} (hv : B[j]? = some v) {ob : List Int} (ho : linE [v] (aloneE L (j : Int)) ob = 0) (h20 : (opsE (aloneE L (j : Int)) (aloneE L (j : Int)).length).length ≤ 20) : FRow B L fl (RR ++ [ob]) (j + 1) := by
  obtain ⟨h1, h2, h3, h4⟩ := h
  have hol := lin_len ho
  refine ⟨by simp [h1], ?_, fun b v' hb hv' => ?_, by rw [tot_snoc]; omega⟩
  · rw [List.getElem?_append_left (by omega)]; exact h2
  · rcases Nat.lt_or_ge b j with h9 | h9
    · obtain ⟨o', q1, q2⟩ := h3 b v' h9 hv'
      exact ⟨o', by rw [List.getElem?_append_left (by omega)]; exact q1, q2⟩
    · obtain rfl : b = j := by omega
      rw [hv] at hv'
      obtain rfl := Option.some.inj hv'
      exact ⟨ob, by rw [List.getElem?_append_right (by omega), h1, Nat.sub_self]; rfl, ho, h20⟩
theorem frow_can {B : List ByteArray} {L : List Ev} (hs : sizesE B L = 0) (himp : ∀ x ∈ opsE L L.length, impB (B.length : Int) x = false) {RR : List (List Int)} (h : FRow B L (((opsE L L.length).filter flB).map (·.serial)) RR B.length) {o : List Int} (hM : Mrg (plcI false L L.length) RR o) : CanP B L ∧ linE B L o = 0 := by
  obtain ⟨h1, h2, h3, _⟩ := h
  have hR := (sizes_parts hs).1
  have hl := find_lin hs himp h1 h2 (fun b v hv => by
    obtain ⟨ob, q1, q2, _⟩ := h3 b v (List.getElem?_eq_some_iff.1 hv).1 hv
    exact ⟨ob, q1, q2⟩) (fun x hx => plc_invI hR hx) hM
  refine ⟨⟨hs, fun i hi => ?_, o, hl⟩, hl⟩
  obtain ⟨ob, _, _, q3⟩ := h3 i _ hi (List.getElem?_eq_getElem hi)
  exact q3
theorem blk_no {B : List ByteArray} {L : List Ev} {j : Nat} {v : ByteArray} (hs : sizesE B L = 0) (hv : B[j]? = some v) (h : ¬ (singleB v (aloneE L (j : Int)) = true ∧ ∃ o, linE [v] (aloneE L (j : Int)) o = 0)) : ¬ CanP B L := by
  rintro ⟨_, h2, h3⟩
  have hj := (List.getElem?_eq_some_iff.1 hv).1
  exact h ⟨alone_single hs hv (h2 j hj), ((can_split hs).1 h3).1 j hj v hv⟩
theorem sizes_nob {B : List ByteArray} {L : List Ev} (hc : checkE (B.length : Int) L = 0) (h : B.any nobB = false) : sizesE B L = 0 :=
  sizes_good hc fun i s _ hs => by
    rw [List.any_eq_false] at h
    have := h s (List.mem_of_getElem? hs)
    unfold nobB at this
    simpa using this
theorem sizes_nob' {B : List ByteArray} {L : List Ev} (h : B.any nobB = true) : sizesE B L ≠ 0 := fun h9 => by
  obtain ⟨s, hs, hn⟩ := List.any_eq_true.1 h
  have := (sizes_parts h9).2.2.2.2 s hs
  unfold nobB at hn
  simp [this] at hn
set_option maxHeartbeats 8000000 in
set_option maxRecDepth 20000 in
theorem bigFind_any (F G : Nat → Prop) (B : List ByteArray) (L : List Ev) (a b : Option Addr) (n c m d : Nat) (w : World) (hl : SList w F a n c B) (hk : VList w G b m d L) (hm : m ≤ 100000) :
    Calls Tryz.prog 17 #[.slice a n c, .slice b m d] w (FndPost B L w) := by
  have hlen := Lib.hid hl.length
  have hLm := Lib.hid hk.length
  have HCK := Lib.hid (hisCheck_any G L (n : Int) b m d w hk)
  have HNB := Lib.hid (fun W (h : Below w.heap.size w W) => nob_any _ B a n c W (hl.same h))
  have HBA := Lib.hid (fun W (h : Below w.heap.size w W) i (hi : i < n) => str_at (hl.same h) i hi)
  have HFL := Lib.hid (fun W (h : Below w.heap.size w W) => flushes_any _ L b m d (n : Int) W (hk.same h) hm)
  have HPL := Lib.hid (fun W (h : Below w.heap.size w W) => places_any _ L b m d false W (hk.same h) hm)
  have HAL := Lib.hid (fun W (h : Below w.heap.size w W) (j : Int) => alone_any _ L b m d j W (hk.same h) hm)
  have K := Env.start w
  clear hl hk
  go_enter Tryz.func17, Tryz.ntmps17
  go_upto_region 1 with fail
  by_cases hc : checkE (n : Int) L = 0
  · rw [hc] at HCK
    cases hnb : B.any nobB with
    | true =>
      rw [hnb] at HNB
      have HX := Lib.hid (show ¬ CanP B L from fun h => sizes_nob' hnb h.1)
      clear hnb hc
      go_wp2_with (first
        | (go_at_call 36; ((with_reducible refine HCK.out.mono ?_); rintro r9 w9 ⟨rfl, h9⟩; replace K := K.on h9; clear h9 HCK))
        | (go_at_call 37; ((with_reducible refine (HNB.out _ K.hb).mono ?_); rintro r9 w9 ⟨rfl, h9⟩; replace K := K.on h9; clear h9 HNB)))
      go_ret2
      exact fnd_no K.hb HX.out
    | false =>
      rw [hnb] at HNB
      have HS := Lib.hid (sizes_nob (L := L) (by rw [hlen.out]; exact hc) hnb)
      have hsp := sizes_parts HS.out
      have hn128 : n ≤ 128 := by have h1 := hsp.2.2.2.1; have h2 := hlen.out; omega
      have hm400 : m ≤ 400 := by have h1 := hsp.2.1; have h2 := hLm.out; omega
      clear hnb hc hsp
      go_upto_region 4 with (first
        | (go_at_call 36; ((with_reducible refine HCK.out.mono ?_); rintro r9 w9 ⟨rfl, h9⟩; replace K := K.on h9; clear h9 HCK))
        | (go_at_call 37; ((with_reducible refine (HNB.out _ K.hb).mono ?_); rintro r9 w9 ⟨rfl, h9⟩; replace K := K.on h9; clear h9 HNB))
        | (go_at_call 46; ((with_reducible refine (HFL.out _ K.hb).mono ?_); rintro r9 w9 ⟨fa, fn, fc, fl, q, rfl, lf, h9, hq1, hq2⟩; replace lf := TList.result (F := fun _ => False) K h9 (lf.mono (fun b _ hb => .inr hb)); replace K := K.on h9; clear h9 HFL)))
      cases q with
      | false =>
        have HX := Lib.hid (show ¬ CanP B L from fun h => by
          obtain ⟨x, hx, hi⟩ := hq2 rfl
          rw [← hLm.out] at hx
          rw [← hlen.out] at hi
          exact imp_none (sizes_parts HS.out).1 HS.out hx hi h.2.2)
        clear hq1 hq2 lf
        go_wp2_with fail
        go_ret2
        exact fnd_no K.hb HX.out
      | true =>
        have HIM := Lib.hid (show ∀ x ∈ opsE L L.length, impB (B.length : Int) x = false from by rw [hLm.out, hlen.out]; exact (hq1 rfl).1)
        have HFE := Lib.hid (show fl = ((opsE L L.length).filter flB).map (·.serial) from by rw [hLm.out]; exact (hq1 rfl).2)
        have HF4 := Lib.hid (show fl.length ≤ 400 from by
          rw [HFE.out, List.length_map]
          refine Nat.le_trans (List.length_filter_le _ _) ?_
          rw [← calls_map, List.length_map]
          refine Nat.le_trans (calls_len L _) ?_
          rw [hLm.out]; exact hm400)
        clear hq1 hq2
        obtain ⟨w1, hw1⟩ := K.name
        rw [← hw1] at K lf ⊢
        clear hw1
        have hkl : Keep w (fun _ => False) w1 [] (w1.alloc (.cells #[.slice fa fn fc] 24)) [Env.lst SLR (Env.slv w1.heap.size 1 1) 1 [(fa, fn, fc)]] := K.keep_made (R := SLR) (fa, fn, fc) 1 #[.slice fa fn fc]
        have hrw : RowsAt (Quiet w (fun _ => False) w1 []) w1 [(fa, fn, fc)] [fl] := ⟨rfl, fun k s hs => by
          cases k with
          | zero => obtain rfl : (fa, fn, fc) = s := Option.some.inj hs; exact ⟨fl, rfl, lf⟩
          | succ k => simp at hs⟩
        replace hrw := hrw.keep hkl
        have K9 : Env w (w1.alloc (.cells #[.slice fa fn fc] 24)) [Env.lst SLR (Env.slv w1.heap.size 1 1) 1 [(fa, fn, fc)]] := K.lit slrOk [(fa, fn, fc)] 1 rfl (by decide)
        clear K lf hkl
        have K := K9
        clear K9
        go_upto_block 0 with fail
        obtain ⟨w2, hw2⟩ := K.name
        rw [← hw2] at K hrw ⊢
        clear hw2
        generalize w1.heap.size = gG at *
        go_wp2_with fail
        go_loopw [8, 35] (fun x8 x35 wr => ∃ (j g cc : Nat) (SS : List (Option Addr × Nat × Nat)) (RR : List (List Int)), x35 = .int .i64 (j : Int) ∧ j ≤ n ∧ x8 = Env.slv g (j + 1) cc ∧ Env w wr [Env.lst SLR (Env.slv g (j + 1) cc) (j + 1) SS] ∧ RowsAt (Quiet w (fun _ => False) wr [Env.lst SLR (Env.slv g (j + 1) cc) (j + 1) SS]) wr SS RR ∧ RowKit.Hid (FRow B L fl RR j)) (fun _ x35 _ => n - (intOf x35).toNat)
        case atStart => exact ⟨0, gG, 1, _, [fl], rfl, by omega, rfl, K, hrw, Lib.hid (frow_zero HF4.out)⟩
        case round =>
          clear K hrw
          obtain ⟨j, g, cc, SS, RR, rfl, hj, rfl, K, hrw, HFR⟩ := hrel
          by_cases hlt : j < n
          · have hjI : (j : Int) < (n : Int) := by omega
            obtain ⟨x, v, rfl, hv, c0⟩ := HBA.out _ K.hb j hlt
            have HV := Lib.hid hv
            clear hv
            go_upto_region 11 with (first
              | (go_at_call 47; ((with_reducible refine (HAL.out _ K.hb (j : Int)).mono ?_); rintro r9 w9 ⟨aa, an, ac, rfl, la, h9⟩; have HBK := Lib.hid (block_any _ v (aloneE L (j : Int)) aa an ac w9 la (by have h8 := la.length; have h7 := alone_len L (j : Int); have h6 := hLm.out; omega)); replace hrw := hrw.keep (K.keep_on h9); replace K := K.on h9; clear h9 la))
              | (go_at_call 20; ((with_reducible refine HBK.out.mono ?_); rintro r9 w9 ⟨la, ln, lc, ob, q, rfl, lo, h9, hq1, hq2, -⟩; replace lo := TList.result (F := fun _ => False) K h9 (lo.mono (fun b _ hb => .inr hb)); replace hrw := hrw.keep (K.keep_on h9); replace K := K.on h9; clear h9 HBK)))
            clear c0
            cases q with
            | false =>
              have HX := Lib.hid (blk_no HS.out HV.out (fun h => by have := hq1.2 h; cases this))
              clear hq1 hq2 lo hrw
              go_wp2_with fail
              go_ret2
              exact fnd_no K.hb HX.out
            | true =>
              have HN := Lib.hid (frow_next HFR.out HV.out (hq2 rfl) (single_parts (hq1.1 rfl).1).2.2)
              clear hq1 hq2
              have KB := K.al (.cells (SLR.c (la, ln, lc)).toArray SLR.et)
              replace hrw := RowsAt.snoc (s := (la, ln, lc)) hrw lo
              have hka := K.keep_al (F := fun _ => False) (.cells (SLR.c (la, ln, lc)).toArray SLR.et)
              replace hrw := hrw.keep hka
              clear lo hka
              go_wp2_with (first
                | (refine KB.apps_one slrOk rfl (.tmp 50) (.tmp 52) rfl 1 0 rfl rfl (e := (la, ln, lc)) rfl rfl (by omega) ?_; intro g3 c3 w8 K8 k8; simp only [List.set] at K8 k8; replace hrw := hrw.keep (k8 _); simp only [Act.put, List.setIfInBounds_toArray, List.set_cons_zero, List.set_cons_succ]; clear KB K))
              have K9 := K8.sub (T' := [Env.lst SLR (Env.slv g3 (j + 1 + 1) c3) (j + 1 + 1) (SS ++ [(la, ln, lc)])]) [1] rfl (by simp) (by simp)
              replace hrw := hrw.fewer (T' := [Env.lst SLR (Env.slv g3 (j + 1 + 1) c3) (j + 1 + 1) (SS ++ [(la, ln, lc)])]) (fun y hy => List.mem_cons_of_mem _ hy)
              go_roundw
              case rel => exact ⟨j + 1, g3, c3, _, _, by go_num, by omega, rfl, K9, hrw, HN⟩
              case measure => simp [intOf]; omega
          · obtain rfl : j = n := by omega
            have hjI : ¬ (j : Int) < (j : Int) := by omega
            have HTOT := Lib.hid (show totL RR ≤ 100000 from by have h1 := HFR.out.2.2.2; omega)
            go_wp2_with (first
              | (go_at_call 49; ((with_reducible refine (HPL.out _ K.hb).mono ?_); rintro r9 w9 ⟨mb, rfl, K9⟩; replace hrw := hrw.keep (env_keep_one K K9); replace K := env_one K K9; clear K9 HPL; replace K := K.sub (T' := [Env.lst SLR (Env.slv g (j + 1) cc) (j + 1) SS, imapT mb (plcF false L m)]) [1, 0] rfl (by simp) (by simp); replace hrw := hrw.fewer (T' := [Env.lst SLR (Env.slv g (j + 1) cc) (j + 1) SS, imapT mb (plcF false L m)]) (by intro y hy; simp only [List.mem_cons, List.not_mem_nil, or_false] at hy ⊢; exact hy.symm)))
              | (go_at_call 48; ((with_reducible refine (merge_any (fun s => (plc_int false L m s).1) K hrw (by omega) HTOT.out).mono ?_); rintro r9 w9 ⟨u, k, o, rfl, K9, hM⟩; have HMM := Lib.hid hM; clear K hM; have K := K9; clear K9)))
            go_ret2
            obtain ⟨oa, oc, rfl, lo⟩ := K.any irOk 0 rfl
            have hfin := frow_can HS.out HIM.out (RR := RR) (by rw [← HFE.out, hlen.out]; exact HFR.out) (by rw [hLm.out]; exact HMM.out)
            exact ⟨_, _, _, o, true, rfl, lo, K.hb, ⟨fun _ => hfin.1, fun _ => rfl⟩, fun _ => hfin.2, fun h => by cases h⟩
  · have HX := Lib.hid (show ¬ CanP B L from fun h => by
      have h1 := h.1
      rw [sizes_err (by rw [hlen.out]; exact hc), hlen.out] at h1
      exact hc h1)
    generalize checkE (n : Int) L = z at *
    have hzne : (z != 0) = true := by simp [hc]
    go_wp2_with (first
      | (go_at_call 36; ((with_reducible refine HCK.out.mono ?_); rintro r9 w9 ⟨rfl, h9⟩; replace K := K.on h9; clear h9 HCK)))
    go_ret2
    exact fnd_no K.hb HX.out
end Go.Proofs.YtnmhnjjehglcfaaGreat.Ents

/- The walk of the program's isInOrder. -/
namespace Go.Proofs.YtnmhnjjehglcfaaGreat.SrchM
open LinMath HisMath ModMath CmdMath Ents
/-- the greatest invocation so far -/
def latI (I : Int → Int) (o : List Int) : Nat → Int
  | 0 => 0
  | k + 1 => match o[k]? with
    | some s => if latI I o k < I s then I s else latI I o k
    | none => latI I o k
theorem lat_next {I : Int → Int} {o : List Int} {k : Nat} {s : Int} (h : o[k]? = some s) : latI I o (k + 1) = if latI I o k < I s then I s else latI I o k := by simp [latI, h]
/-- no operation stands behind one that it is before -/
def OrdP (L : List Ev) (n : Nat) (o : List Int) : Prop := ∀ (k : Nat) s, o[k]? = some s → (plcF true L n s).isSome = true → latI (plcI false L n) o k ≤ plcI true L n s
end Go.Proofs.YtnmhnjjehglcfaaGreat.SrchM
namespace Go.Proofs.YtnmhnjjehglcfaaGreat.Ents
open Go.RowKit Plan HisMath LinMath ModMath CmdMath Rws Env LayMath SrchM
theorem max_if (a b : Int) : (if a < b then b else a) = max a b := by
  by_cases h : a < b
  · rw [if_pos h]; omega
  · rw [if_neg h]; omega
def IffPost (P : Prop) (w : World) (r : Ending) (w' : World) : Prop := (∃ z, r = .returned (.bool z) ∧ (z = true ↔ P)) ∧ Below w.heap.size w w'
set_option maxHeartbeats 8000000 in
set_option maxRecDepth 20000 in
theorem inOrder_any (F G : Nat → Prop) (L : List Ev) (o : List Int) (a b : Option Addr) (n c p q : Nat) (w : World) (hl : VList w F a n c L) (ho : TList IR w G b p q o) (hm : n ≤ 100000) :
    Calls Tryz.prog 72 #[.slice a n c, .slice b p q] w (IffPost (OrdP L n o) w) := by
  have HPF := Lib.hid (fun W (h : Below w.heap.size w W) => places_any _ L a n c false W (hl.same h) hm)
  have HPT := Lib.hid (fun W (h : Below w.heap.size w W) => places_any _ L a n c true W (hl.same h) hm)
  have HAT := Lib.hid (fun W (h : Below w.heap.size w W) i (hi : i < p) => ir_at (ho.same h) i hi)
  have hlo := Lib.hid ho.length
  have hcp := ho.cap
  unfold maxLen at hcp
  have K := Env.start w
  clear hl ho
  go_enter Tryz.func72, Tryz.ntmps72
  go_upto_block 0 with (first
    | (go_at_call 49; (first | ((with_reducible refine (HPF.out _ K.hb).mono ?_); rintro r9 w9 ⟨mb1, rfl, K9⟩; replace K := env_one K K9; clear K9 HPF) | ((with_reducible refine (HPT.out _ K.hb).mono ?_); rintro r9 w9 ⟨mb2, rfl, K9⟩; replace K := env_one K K9; clear K9 HPT))))
  go_wp2_with fail
  go_loopw [7, 18] (fun x7 x18 wr => ∃ (j : Nat), x18 = .int .i64 (j : Int) ∧ j ≤ p ∧ x7 = .int .i64 (latI (plcI false L n) o j) ∧ RowKit.Hid (∀ (k : Nat) s, k < j → o[k]? = some s → (plcF true L n s).isSome = true → latI (plcI false L n) o k ≤ plcI true L n s) ∧ Env w wr [imapT mb2 (plcF true L n), imapT mb1 (plcF false L n)]) (fun _ x18 _ => p - (intOf x18).toNat)
  case atStart => exact ⟨0, rfl, by omega, rfl, Lib.hid (fun k s hk => absurd hk (Nat.not_lt_zero _)), K⟩
  case round =>
    clear K
    obtain ⟨j, rfl, hj, rfl, hall, K⟩ := hrel
    by_cases hlt : j < p
    · obtain ⟨x, s, rfl, hs, c0⟩ := HAT.out _ K.hb j hlt
      have hjI : (j : Int) < (p : Int) := by omega
      have HS := Lib.hid hs
      have HNX := Lib.hid (lat_next (I := plcI false L n) hs)
      have hlk := (imap_look inm_und inm_zero (env_mget K 0 rfl) s).1
      have hlk2 := (imap_look inm_und inm_zero (env_mget K 1 rfl) s).2
      rw [(plc_int true L n s).1] at hlk
      rw [(plc_int false L n s).1] at hlk2
      clear hs
      generalize hlat : latI (plcI false L n) o j = lat at *
      have HLAT := Lib.hid hlat
      clear hlat
      cases hsome : (plcF true L n s).isSome with
      | false =>
        rw [hsome] at hlk
        have HN : RowKit.Hid (∀ (k : Nat) s, k < j + 1 → o[k]? = some s → (plcF true L n s).isSome = true → latI (plcI false L n) o k ≤ plcI true L n s) := Lib.hid (fun k s' hk hs' hq => by
          rcases Nat.lt_or_ge k j with h9 | h9
          · exact hall.out k s' h9 hs' hq
          · obtain rfl : k = j := by omega
            rw [HS.out] at hs'
            cases hs'
            rw [hsome] at hq; cases hq)
        clear hsome
        have hmx : RowKit.Hid (latI (plcI false L n) o (j + 1) = if lat < plcI false L n s then plcI false L n s else lat) := HNX
        generalize plcI false L n s = iv at *
        go_wp2_with fail
        go_roundw
        case rel => exact ⟨j + 1, by go_num, by omega, by rw [hmx.out, max_if], HN, K⟩
        case measure => simp [intOf]; omega
      | true =>
        rw [hsome] at hlk
        have HSM := Lib.hid hsome
        clear hsome
        by_cases hcmp : plcI true L n s < lat
        · have hcd : decide (plcI true L n s < lat) = true := decide_eq_true hcmp
          have HX := Lib.hid (show ¬ OrdP L n o from fun h => by
            have := h j s HS.out HSM.out
            rw [HLAT.out] at this
            omega)
          generalize plcI true L n s = ti at *
          go_wp2_with fail
          go_ret
          exact ⟨⟨false, rfl, ⟨fun h => (by cases h), fun h => absurd h HX.out⟩⟩, K.hb⟩
        · have hcd : decide (plcI true L n s < lat) = false := decide_eq_false hcmp
          have HN : RowKit.Hid (∀ (k : Nat) s, k < j + 1 → o[k]? = some s → (plcF true L n s).isSome = true → latI (plcI false L n) o k ≤ plcI true L n s) := Lib.hid (fun k s' hk hs' hq => by
            rcases Nat.lt_or_ge k j with h9 | h9
            · exact hall.out k s' h9 hs' hq
            · obtain rfl : k = j := by omega
              rw [HS.out] at hs'
              cases hs'
              rw [HLAT.out]; omega)
          generalize plcI true L n s = ti at *
          have hmx : RowKit.Hid (latI (plcI false L n) o (j + 1) = if lat < plcI false L n s then plcI false L n s else lat) := HNX
          generalize plcI false L n s = iv at *
          go_wp2_with fail
          go_roundw
          case rel => exact ⟨j + 1, by go_num, by omega, by rw [hmx.out, max_if], HN, K⟩
          case measure => simp [intOf]; omega
    · obtain rfl : j = p := by omega
      have hjI : ¬ (j : Int) < (j : Int) := by omega
      have HX := Lib.hid (show OrdP L n o from fun k s hs hq => hall.out k s (by have h1 := (List.getElem?_eq_some_iff.1 hs).1; have h2 := hlo.out; omega) hs hq)
      go_wp2_with fail
      go_ret
      exact ⟨⟨true, rfl, ⟨fun _ => HX.out, fun _ => rfl⟩⟩, K.hb⟩
end Go.Proofs.YtnmhnjjehglcfaaGreat.Ents

/- The walk of the program's hasResults. -/
namespace Go.Proofs.YtnmhnjjehglcfaaGreat.SrchM
open LinMath HisMath ModMath CmdMath Ents
def zCmd : Cmd := ⟨0, 0, ⟨#[]⟩⟩
/-- the commands while they are laid -/
def cmdL (X : List Ev) (j : Nat) : List Cmd := (X.take j).map cmdOf ++ List.replicate (X.length - j) zCmd
theorem cmd_set {X : List Ev} {j : Nat} {e : Ev} (h : X[j]? = some e) : (cmdL X j).set j (cmdOf e) = cmdL X (j + 1) := by
  unfold cmdL
  have hj := (List.getElem?_eq_some_iff.1 h).1
  obtain ⟨q, hq⟩ : ∃ q, X.length - j = q + 1 := ⟨X.length - j - 1, by omega⟩
  rw [List.set_append_right _ _ (by simp; omega), List.length_map, List.length_take, Nat.min_eq_left (by omega), Nat.sub_self, take_snoc h, List.map_append, List.append_assoc, hq, show X.length - (j + 1) = q from by omega, List.replicate_succ, List.set_cons_zero]
  rfl
theorem cmd_zero (X : List Ev) : cmdL X 0 = List.replicate X.length zCmd := by simp [cmdL]
theorem cmd_all (X : List Ev) : cmdL X X.length = X.map cmdOf := by simp [cmdL]
/-- the results are those with which the operations were answered -/
def ResP (B : List ByteArray) (X : List Ev) : Prop := ∀ (i : Nat) x r, X[i]? = some x → (runR B (X.map cmdOf))[i]? = some r → x.ret = true → x.err = r.err ∧ x.res = r.data
theorem res_run : ∀ (X : List Ev) (B : List ByteArray), ResP B X ↔ (runW B X).isSome = true
  | [], B => ⟨fun _ => rfl, fun _ i x r h => by simp at h⟩
  | y :: X, B => by
    have ih := res_run X (applyB B (cmdOf y))
    rw [runW]
    constructor
    · intro h
      have h0 : fitR B y := fun hr => by
        have := h 0 y (applyR B (cmdOf y)) rfl rfl hr
        exact ⟨this.1.symm, this.2.symm⟩
      rw [if_pos h0]
      exact ih.1 fun i x r hx hr => h (i + 1) x r (by simpa using hx) (by simpa [runR] using hr)
    · intro h
      by_cases h0 : fitR B y
      · rw [if_pos h0] at h
        have h1 := ih.2 h
        intro i x r hx hr hret
        cases i with
        | zero =>
          obtain rfl : y = x := by simpa using hx
          obtain rfl : applyR B (cmdOf y) = r := by simpa [runR] using hr
          have := h0 hret
          exact ⟨this.1.symm, this.2.symm⟩
        | succ i => exact h1 i x r (by simpa using hx) (by simpa [runR] using hr) hret
      · rw [if_neg h0] at h; cases h
end Go.Proofs.YtnmhnjjehglcfaaGreat.SrchM
namespace Go.Proofs.YtnmhnjjehglcfaaGreat.Ents
open Go.RowKit Plan HisMath LinMath ModMath CmdMath Rws Env LayMath SrchM
set_option maxHeartbeats 8000000 in
set_option maxRecDepth 20000 in
theorem hasResults_any (F G : Nat → Prop) (B : List ByteArray) (X : List Ev) (a b : Option Addr) (n c m d : Nat) (w : World) (hl : SList w F a n c B) (hk : VList w G b m d X) (hn : n ≤ 8796093022208) (hm : m ≤ 100000) :
    Calls Tryz.prog 73 #[.slice a n c, .slice b m d] w (IffPost (ResP B X) w) := by
  have hxl := Lib.hid hk.length
  have hxl2 := hk.length
  have HAT := Lib.hid (fun W (h : Below w.heap.size w W) i (hi : i < m) => ev_at (hk.same h) i hi)
  have HRUN := Lib.hid (fun W F2 b c (h : Below w.heap.size w W) (h2 : CList' W F2 b m c (X.map cmdOf)) => modelOk.run _ F2 B (X.map cmdOf) a b n _ m c W (hl.same h) h2 hn hm)
  unfold RPost at HRUN
  have hrl := runR_len B (X.map cmdOf)
  rw [List.length_map, hxl2] at hrl
  have K := (Env.start w).mades crOk zCmd m (by unfold maxLen; omega)
  have hmk := run_make_rows crOk zCmd rfl 143 rfl .i64 .i64 m (by show 32 * m ≤ _; omega) (by omega) w
  have HC0 := Lib.hid (show List.replicate m zCmd = cmdL X 0 from by rw [cmd_zero, hxl2])
  have HCA := Lib.hid (show cmdL X m = X.map cmdOf from by rw [← hxl2, cmd_all])
  generalize hG : w.heap.size = gG at K
  clear hl hk
  go_enter Tryz.func73, Tryz.ntmps73
  go_upto_region 2 with fail
  obtain ⟨w1, hw1⟩ := K.name
  rw [← hw1] at K ⊢
  rw [HC0.out] at K
  clear hw1 hmk hG
  go_wp2_with fail
  go_loopw [17] (fun x17 wr => ∃ j : Nat, x17 = .int .i64 (j : Int) ∧ j ≤ m ∧ Env w wr [Env.lst CR (Env.slv gG m m) m (cmdL X j)]) (fun x17 _ => m - (intOf x17).toNat)
  case atStart => exact ⟨0, rfl, by omega, K⟩
  case round =>
    clear K
    obtain ⟨j, rfl, hj, K⟩ := hrel
    by_cases hlt : j < m
    · obtain ⟨x, e, rfl, he, c0, c1, c2, c3, c4, c5, c6, c7⟩ := HAT.out _ K.hb j hlt
      have hjI : (j : Int) < (m : Int) := by omega
      have HSET := Lib.hid (cmd_set he)
      obtain ⟨xr, xq, xs, xk, xb, xd, xe, xx⟩ := e
      simp only [cmdOf] at c0 c1 c2 c3 c4 c5 c6 c7 HSET
      clear he
      go_upto_region 5 with fail
      replace K := K.al (.cells #[.bool xr, .int .i64 xq, .int .i64 xs, .int .i64 xk, .int .i64 xb, .string xd, .int .i64 xe, .string xx] 55)
      obtain ⟨gx, hg⟩ : ∃ gx, wr.heap.size = gx := ⟨_, rfl⟩
      rw [hg] at K
      simp only [hg]
      generalize wr.alloc (.cells #[.bool xr, .int .i64 xq, .int .i64 xs, .int .i64 xk, .int .i64 xb, .string xd, .int .i64 xe, .string xx] 55) = w3 at *
      clear c0 c1 c2 c3 c4 c5 c6 c7 hg
      obtain ⟨c0, c1, c2, c3, c4, c5, c6, c7⟩ := ev_cells (K.get 0 rfl)
      go_wp2_with (first
        | ((with_reducible refine K.idx_store (g := gG) (c := m) (L := cmdL X j) crOk 26 (.tmp 22) (.tmp 23) (.tmp 25) ?_ ?_ 1 ?_ hlt ⟨xk, xb, xd⟩ (j * 3) ?_ ?_ ?_ ?_ ?_); (· rfl); (· rfl); (· rfl); (· rfl); (· go_simp); (· rfl); (· rfl); intro w4 K4 _; simp only [List.set] at K4; clear K))
      rw [HSET.out] at K4
      replace K4 := K4.tail
      go_roundw
      case rel => exact ⟨j + 1, by go_num, by omega, K4⟩
      case measure => simp [intOf]; omega
    · obtain ⟨j0, hj0⟩ : ∃ j0, j0 = j := ⟨_, rfl⟩
      obtain rfl : j = m := by omega
      subst hj0
      have hjI : ¬ (j0 : Int) < (j0 : Int) := by omega
      rw [HCA.out] at K
      go_wp2_with (first
        | (go_at_call 98; ((with_reducible refine (HRUN.out _ _ _ _ K.hb (K.list crOk 0 rfl)).mono ?_); rintro r9 w5 ⟨a5, n5, c5, za, zm, zc, rfl, -, lz, h9⟩; have HB5 := Lib.hid (K.on h9).hb; have hzm := lz.length; rw [hrl] at hzm; subst hzm; have HRT := Lib.hid (fun W (h : Below w5.heap.size w5 W) i (hi : i < j0) => res_at (lz.same h) i hi); clear K h9 lz)))
      go_loopw [36] (fun x36 wr => ∃ j : Nat, x36 = .int .i64 (j : Int) ∧ j ≤ j0 ∧ RowKit.Hid (∀ (i : Nat) x r, i < j → X[i]? = some x → (runR B (X.map cmdOf))[i]? = some r → x.ret = true → x.err = r.err ∧ x.res = r.data) ∧ Env w5 wr []) (fun x36 _ => j0 - (intOf x36).toNat)
      case atStart => exact ⟨0, rfl, by omega, Lib.hid (fun i x r hi => absurd hi (Nat.not_lt_zero _)), Env.start w5⟩
      case round =>
        obtain ⟨j, rfl, hj, hall, K⟩ := hrel
        by_cases hlt : j < j0
        · obtain ⟨x, e, rfl, he, c0, c1, c2, c3, c4, c5, c6, c7⟩ := HAT.out _ (HB5.out.trans (K.hb.mono HB5.out.size)) j hlt
          have hjI : (j : Int) < (j0 : Int) := by omega
          have HE := Lib.hid he
          obtain ⟨xr, xq, xs, xk, xb, xd, xe, xx⟩ := e
          simp only at c0 c1 c2 c3 c4 c5 c6 c7
          clear he
          go_upto_region 11 with fail
          replace K := K.al (.cells #[.bool xr, .int .i64 xq, .int .i64 xs, .int .i64 xk, .int .i64 xb, .string xd, .int .i64 xe, .string xx] 55)
          obtain ⟨gx, hg⟩ : ∃ gx, wr.heap.size = gx := ⟨_, rfl⟩
          rw [hg] at K
          simp only [hg]
          generalize wr.alloc (.cells #[.bool xr, .int .i64 xq, .int .i64 xs, .int .i64 xk, .int .i64 xb, .string xd, .int .i64 xe, .string xx] 55) = w3 at *
          clear c0 c1 c2 c3 c4 c5 c6 c7 hg
          obtain ⟨c0, c1, c2, c3, c4, c5, c6, c7⟩ := ev_cells (K.get 0 rfl)
          obtain ⟨y, r, rfl, hr, d0, d1⟩ := HRT.out _ K.hb j hlt
          have HR := Lib.hid hr
          obtain ⟨re, rd⟩ := r
          simp only at d0 d1
          clear hr
          cases xr with
          | false =>
            have HN : RowKit.Hid (∀ (i : Nat) x r, i < j + 1 → X[i]? = some x → (runR B (X.map cmdOf))[i]? = some r → x.ret = true → x.err = r.err ∧ x.res = r.data) := Lib.hid (fun i x' r' hi hx' hr' hq => by
              rcases Nat.lt_or_ge i j with h9 | h9
              · exact hall.out i x' r' h9 hx' hr' hq
              · obtain rfl : i = j := by omega
                rw [HE.out] at hx'
                rw [HR.out] at hr'
                cases hx'
                cases hr'
                cases hq)
            refine Plan.start (fun W => W.cell? ⟨gx, 0, none⟩ = some (.bool false) ∧ W.cell? ⟨gx, 6, none⟩ = some (.int .i64 xe) ∧ W.cell? ⟨gx, 7, none⟩ = some (.string xx) ∧ W.cell? (y.add (j * 2)) = some (.int .i64 re) ∧ W.cell? ⟨(y.add (j * 2)).block, (y.add (j * 2)).off + 1, none⟩ = some (.string rd)) [(0, true), (1, true), (2, true), (3, true), (4, true), (5, true), (6, true), (7, true), (8, true), (9, true), (10, true)] (by kernel_rfl) (by kernel_rfl) (by kernel_rfl) (by kernel_rfl) ⟨c0, c6, c7, d0, d1⟩ ?_
            replace K := K.drew
            obtain ⟨w4, hw4⟩ := K.name
            rw [← hw4] at K ⊢
            clear hw4
            simp only [List.map_cons, List.map_nil, List.getElem?_toArray, List.getElem?_cons_zero, List.getElem?_cons_succ]
            repeat (first | (refine Plan.take ?_ (by rfl) ?_ ?_; rotate_left; (· rintro w9 ⟨u0, u6, u7, v0, v1⟩; go_simp; all_goals (with_reducible rfl)); simp only [Act.put, List.setIfInBounds_toArray, List.set_cons_zero, List.set_cons_succ]) | (refine Plan.pass (by rfl) ?_; simp only [Act.put, List.setIfInBounds_toArray, List.set_cons_zero, List.set_cons_succ]))
            refine Plan.ends ?_
            replace K := K.tail
            go_wp2_with fail
            go_roundw
            case rel => exact ⟨j + 1, by go_num, by omega, HN, K⟩
            case measure => simp [intOf]; omega
          | true =>
            by_cases h1 : xe = re
            · subst h1
              by_cases h2 : xx = rd
              · subst h2
                have HN : RowKit.Hid (∀ (i : Nat) x r, i < j + 1 → X[i]? = some x → (runR B (X.map cmdOf))[i]? = some r → x.ret = true → x.err = r.err ∧ x.res = r.data) := Lib.hid (fun i x' r' hi hx' hr' hq => by
                  rcases Nat.lt_or_ge i j with h9 | h9
                  · exact hall.out i x' r' h9 hx' hr' hq
                  · obtain rfl : i = j := by omega
                    rw [HE.out] at hx'
                    rw [HR.out] at hr'
                    cases hx'
                    cases hr'
                    exact ⟨rfl, rfl⟩)
                refine Plan.start (fun W => W.cell? ⟨gx, 0, none⟩ = some (.bool true) ∧ W.cell? ⟨gx, 6, none⟩ = some (.int .i64 xe) ∧ W.cell? ⟨gx, 7, none⟩ = some (.string xx) ∧ W.cell? (y.add (j * 2)) = some (.int .i64 xe) ∧ W.cell? ⟨(y.add (j * 2)).block, (y.add (j * 2)).off + 1, none⟩ = some (.string xx)) [(0, true), (1, true), (2, true), (3, true), (4, true), (5, true), (6, true), (7, true), (8, true), (9, true), (10, true)] (by kernel_rfl) (by kernel_rfl) (by kernel_rfl) (by kernel_rfl) ⟨c0, c6, c7, d0, d1⟩ ?_
                replace K := K.drew
                obtain ⟨w4, hw4⟩ := K.name
                rw [← hw4] at K ⊢
                clear hw4
                simp only [List.map_cons, List.map_nil, List.getElem?_toArray, List.getElem?_cons_zero, List.getElem?_cons_succ]
                repeat (first | (refine Plan.take ?_ (by rfl) ?_ ?_; rotate_left; (· rintro w9 ⟨u0, u6, u7, v0, v1⟩; go_simp; all_goals (with_reducible rfl)); simp only [Act.put, List.setIfInBounds_toArray, List.set_cons_zero, List.set_cons_succ]) | (refine Plan.pass (by rfl) ?_; simp only [Act.put, List.setIfInBounds_toArray, List.set_cons_zero, List.set_cons_succ]))
                refine Plan.ends ?_
                replace K := K.tail
                go_wp2_with fail
                go_roundw
                case rel => exact ⟨j + 1, by go_num, by omega, HN, K⟩
                case measure => simp [intOf]; omega
              · have hl2 : ¬ xx.toList = rd.toList := by rw [bl_eq]; exact h2
                have HX := Lib.hid (show ¬ ResP B X from fun h => h2 (h j _ _ HE.out HR.out rfl).2)
                refine Plan.start (fun W => W.cell? ⟨gx, 0, none⟩ = some (.bool true) ∧ W.cell? ⟨gx, 6, none⟩ = some (.int .i64 xe) ∧ W.cell? ⟨gx, 7, none⟩ = some (.string xx) ∧ W.cell? (y.add (j * 2)) = some (.int .i64 xe) ∧ W.cell? ⟨(y.add (j * 2)).block, (y.add (j * 2)).off + 1, none⟩ = some (.string rd)) [(0, true), (1, true), (2, true), (3, true), (4, true), (5, true), (6, true), (7, true), (8, true), (9, true), (10, true)] (by kernel_rfl) (by kernel_rfl) (by kernel_rfl) (by kernel_rfl) ⟨c0, c6, c7, d0, d1⟩ ?_
                replace K := K.drew
                obtain ⟨w4, hw4⟩ := K.name
                rw [← hw4] at K ⊢
                clear hw4
                simp only [List.map_cons, List.map_nil, List.getElem?_toArray, List.getElem?_cons_zero, List.getElem?_cons_succ]
                repeat (first | (refine Plan.take ?_ (by rfl) ?_ ?_; rotate_left; (· rintro w9 ⟨u0, u6, u7, v0, v1⟩; go_simp; all_goals (with_reducible rfl)); simp only [Act.put, List.setIfInBounds_toArray, List.set_cons_zero, List.set_cons_succ]) | (refine Plan.pass (by rfl) ?_; simp only [Act.put, List.setIfInBounds_toArray, List.set_cons_zero, List.set_cons_succ]))
                refine Plan.ends ?_
                go_wp2_with fail
                go_ret
                exact ⟨⟨false, rfl, ⟨fun h => (by cases h), fun h => absurd h HX.out⟩⟩, HB5.out.trans (K.hb.mono HB5.out.size)⟩
            · have h1d : decide (xe = re) = false := decide_eq_false h1
              have HX := Lib.hid (show ¬ ResP B X from fun h => h1 (h j _ _ HE.out HR.out rfl).1)
              refine Plan.start (fun W => W.cell? ⟨gx, 0, none⟩ = some (.bool true) ∧ W.cell? ⟨gx, 6, none⟩ = some (.int .i64 xe) ∧ W.cell? ⟨gx, 7, none⟩ = some (.string xx) ∧ W.cell? (y.add (j * 2)) = some (.int .i64 re) ∧ W.cell? ⟨(y.add (j * 2)).block, (y.add (j * 2)).off + 1, none⟩ = some (.string rd)) [(0, true), (1, true), (2, true), (3, true), (4, true), (5, true), (6, true), (7, true), (8, true), (9, true), (10, true)] (by kernel_rfl) (by kernel_rfl) (by kernel_rfl) (by kernel_rfl) ⟨c0, c6, c7, d0, d1⟩ ?_
              replace K := K.drew
              obtain ⟨w4, hw4⟩ := K.name
              rw [← hw4] at K ⊢
              clear hw4
              simp only [List.map_cons, List.map_nil, List.getElem?_toArray, List.getElem?_cons_zero, List.getElem?_cons_succ]
              repeat (first | (refine Plan.take ?_ (by rfl) ?_ ?_; rotate_left; (· rintro w9 ⟨u0, u6, u7, v0, v1⟩; go_simp; all_goals (with_reducible rfl)); simp only [Act.put, List.setIfInBounds_toArray, List.set_cons_zero, List.set_cons_succ]) | (refine Plan.pass (by rfl) ?_; simp only [Act.put, List.setIfInBounds_toArray, List.set_cons_zero, List.set_cons_succ]))
              refine Plan.ends ?_
              go_wp2_with fail
              go_ret
              exact ⟨⟨false, rfl, ⟨fun h => (by cases h), fun h => absurd h HX.out⟩⟩, HB5.out.trans (K.hb.mono HB5.out.size)⟩
        · obtain rfl : j = j0 := by omega
          have hjI : ¬ (j : Int) < (j : Int) := by omega
          have HX := Lib.hid (show ResP B X from fun i x r hx hr hq => hall.out i x r (by have h1 := (List.getElem?_eq_some_iff.1 hx).1; have h2 := hxl.out; omega) hx hr hq)
          go_wp2_with fail
          go_ret
          exact ⟨⟨true, rfl, ⟨fun _ => HX.out, fun _ => rfl⟩⟩, HB5.out.trans (K.hb.mono HB5.out.size)⟩
end Go.Proofs.YtnmhnjjehglcfaaGreat.Ents

/- The library's Sort and Compact at strings of the walk's own. -/
namespace Go.Proofs.YtnmhnjjehglcfaaGreat.Ents
open Go.RowKit Plan HisMath LinMath ModMath CmdMath Rws Env LayMath SrchM
def byL (VL : List ByteArray) : List (List UInt8) := VL.map (·.data.toList)
def ofL (ss : List (List UInt8)) : List ByteArray := ss.map fun l => ⟨l.toArray⟩
theorem of_by (VL : List ByteArray) : ofL (byL VL) = VL := by
  unfold ofL byL
  rw [List.map_map]
  conv => rhs; rw [← List.map_id VL]
  refine List.map_congr_left fun b _ => ?_
  rfl
theorem enc_of (ss : List (List UInt8)) : ss.map encStr = SR.all (ofL ss) := by
  induction ss with
  | nil => rfl
  | cons s ss ih => rw [List.map_cons, ih]; rfl
theorem less_data (x y : ByteArray) : lessB x y = Op.bytesLess x.data.toList y.data.toList := by
  unfold lessB
  rw [Lib.toList_data, Lib.toList_data]
theorem own_row {w W : World} {T : List Thing} {g n c : Nat} {VL : List ByteArray} (K : Env w W (Env.lst SR (Env.slv g n c) n VL :: T)) : ∃ cur, w.heap.size ≤ g ∧ W.heap[g]? = some (.cells cur SR.et (0, 0)) ∧ n ≤ c ∧ c ≤ maxLen ∧ cur.size = c * 1 ∧ (byL VL).length = n ∧ cur.toList.take (byL VL).length = (byL VL).map encStr := by
  have hl := own_len srOk K 0 rfl
  rcases (K.own 0 rfl).2 with ⟨h, _⟩ | ⟨g', c', cur, h, h1, h2, h3, h4, h5, h6⟩
  · cases h
  · cases h
    have hn : (byL VL).length = n := by unfold byL; rw [List.length_map]; exact hl
    refine ⟨cur, h1, h2, h3, h4, h5, hn, ?_⟩
    rw [hn, enc_of, of_by]
    rw [show SR.sz = 1 from rfl, Nat.mul_one] at h6
    exact h6
theorem env_sorted {w W : World} {T : List Thing} {g n c q : Nat} {os : Array Obj} {VL : List ByteArray} (K : Env w W (Env.lst SR (Env.slv g n c) n VL :: T)) (ts : List (List UInt8)) (hl : ts.length = n) : Env w (Sort.grow (Sort.putRow encStr (Sort.ahead W q) g 0 ts.toArray) os) (Env.lst SR (Env.slv g n c) n (ofL ts) :: T) := by
  obtain ⟨cur, h1, h2, h3, h4, h5, h6, h7⟩ := own_row K
  have hown := ownsRow_sorted (n := q) (os := os) (ss := byL VL) (ts := ts) (by rw [hl, h6]) h1 h2 (by rw [h6]; exact h3) h4 h5
  rw [h6, enc_of] at hown
  have hgr := grownBy_sorted (w := W) (g := g) (n := q) (os := os) ts.toArray
  exact K.set hgr 0 rfl (fun g' e => e) (y := Env.lst SR (Env.slv g n c) n (ofL ts)) hown (fun g' e => .inl e)
/-- no later one is less -/
def SortedS (L : List ByteArray) : Prop := ∀ i j (hi : i < L.length) (hj : j < L.length), i < j → lessB L[j] L[i] = false
theorem sort_own {w W : World} {T : List Thing} {g n c : Nat} {VL : List ByteArray} (K : Env w W (Env.lst SR (Env.slv g n c) n VL :: T)) (hn : n ≤ 1000000) :
    Calls Tryz.prog 90 #[.slice (some ⟨g, 0, none⟩) n c] W fun r w' => r = .returned (.tuple #[]) ∧ ∃ ML, Env w w' (Env.lst SR (Env.slv g n c) n ML :: T) ∧ SortedS ML ∧ ∀ x, x ∈ ML ↔ x ∈ VL := by
  obtain ⟨cur, h1, h2, h3, h4, h5, h6, h7⟩ := own_row K
  have hc := Any.slices_Sort_string Tryz.lays190 g 0 c (byL VL) W (holds_of_block h2 h7) (Array.getElem?_eq_some_iff.1 h2).1 (by omega)
  rw [h6] at hc
  refine hc.mono ?_
  rintro r w' ⟨rfl, q, os, rfl⟩
  refine ⟨rfl, ofL ((byL VL).mergeSort fun x y => decide (x ≤ y)), env_sorted K _ (by simp [h6]), ?_, fun x => ?_⟩
  · have hs : ((byL VL).mergeSort fun x y => decide (x ≤ y)).Pairwise (fun x y => decide (x ≤ y) = true) := List.pairwise_mergeSort (fun a b c h1 h2 => by
      rw [decide_eq_true_eq, bl_le] at h1 h2 ⊢
      cases h3 : Op.bytesLess c a with
      | false => rfl
      | true => rw [le_lt h2 h3] at h1; cases h1) (fun a b => by
      rw [Bool.or_eq_true, decide_eq_true_eq, decide_eq_true_eq, bl_le, bl_le]
      cases h3 : Op.bytesLess b a with
      | false => exact .inl rfl
      | true =>
        cases h4 : Op.bytesLess a b with
        | false => exact .inr rfl
        | true => have := bl_trans h3 h4; rw [bl_irr] at this; cases this) (byL VL)
    rw [List.pairwise_iff_getElem] at hs
    intro i j hi hj hij
    unfold ofL at hi hj ⊢
    rw [List.length_map] at hi hj
    have := hs i j hi hj hij
    rw [decide_eq_true_eq, bl_le] at this
    simp only [List.getElem_map, less_data]
    exact this
  · unfold ofL
    simp only [List.mem_map, List.mem_mergeSort]
    constructor
    · rintro ⟨l, hl, rfl⟩
      unfold byL at hl
      obtain ⟨b, hb, rfl⟩ := List.mem_map.1 hl
      exact hb
    · intro hx
      exact ⟨x.data.toList, List.mem_map.2 ⟨x, hx, rfl⟩, rfl⟩
theorem compact_own {w W : World} {T : List Thing} {g n c : Nat} {ML : List ByteArray} (K : Env w W (Env.lst SR (Env.slv g n c) n ML :: T)) (hn : n ≤ 1000000) (hs : SortedS ML) :
    Calls Tryz.prog 91 #[.slice (some ⟨g, 0, none⟩) n c] W fun r w' => ∃ m E, r = .returned (.slice (some ⟨g, 0, none⟩) m c) ∧ Env w w' (Env.lst SR (Env.slv g m c) m E :: T) ∧ AscS E ∧ ∀ x, x ∈ E ↔ x ∈ ML := by
  obtain ⟨cur, h1, h2, h3, h4, h5, h6, h7⟩ := own_row K
  have hc := Tryz.slices_Compact_string g 0 c (byL ML) W (holds_of_block h2 h7) (by omega) (by omega)
  rw [h6] at hc
  have hle := Lib.compact_length_le (byL ML)
  have hca := compact_asc (zs := byL ML) (fun i j hi hj hij => by
    unfold byL at hi hj ⊢
    rw [List.length_map] at hi hj
    simp only [List.getElem_map]
    rw [← less_data]
    exact hs i j hi hj hij)
  refine hc.mono ?_
  rintro r w' ⟨rfl, q, rfl⟩
  have K2 := env_sorted (q := q) (os := #[]) K (Lib.compact (byL ML) ++ List.replicate (n - (Lib.compact (byL ML)).length) []) (by simp; omega)
  have hg : ∀ X : World, Sort.grow X #[] = X := fun X => by simp [Sort.grow]
  rw [hg] at K2
  have K3 := (own_cut srOk (F := fun _ => False) (m := (Lib.compact (byL ML)).length) K2 0 rfl (by omega) (L' := ofL (Lib.compact (byL ML))) (by unfold ofL; rw [List.map_append, List.take_append_of_le_length (by simp), List.take_of_length_le (by simp)])).1
  refine ⟨_, _, rfl, K3, ?_, fun x => ?_⟩
  · unfold AscS ofL
    rw [List.pairwise_map]
    refine hca.1.imp fun {a b} h => ?_
    rw [less_data]
    exact h
  · unfold ofL
    rw [List.mem_map]
    constructor
    · rintro ⟨l, hl, rfl⟩
      have := (hca.2 l).1 hl
      unfold byL at this
      obtain ⟨b, hb, rfl⟩ := List.mem_map.1 this
      exact hb
    · intro hx
      exact ⟨x.data.toList, (hca.2 _).2 (List.mem_map.2 ⟨x, hx, rfl⟩), rfl⟩
end Go.Proofs.YtnmhnjjehglcfaaGreat.Ents
