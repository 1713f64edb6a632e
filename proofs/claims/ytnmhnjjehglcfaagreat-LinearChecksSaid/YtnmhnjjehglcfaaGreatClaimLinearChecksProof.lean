/- LinearChecks: the program's Check says which orders are linearizations, as the document's own, for any events. No condition. -/
import Derived.Test.YtnmhnjjehglcfaaGreatPack41
import Derived.Test.YtnmhnjjehglcfaaGreatRows
import Derived.Lib.Hide
import Derived.Deep.Cut
import Derived.OpenShut
import Derived.ShutString
import Derived.ChangeArms
import Derived.ProofKit
import Derived.SizedLaws
import Derived.WalkKit
import Derived.SliceStrings
import Derived.ChangeOld
import Derived.Carry
import Derived.Below

/- The walks of the laws LinearChecks and LinearRaw. -/
namespace Go.Proofs.YtnmhnjjehglcfaaGreat.Ents
open Go.RowKit Plan HisMath LinMath Rws Env LayMath
theorem linLight_any (a b : Option Addr) (n c m d : Nat) (hn : n ≤ maxLen) (hm : m ≤ maxLen) (w : World) : Calls Tryz.prog 10 #[.slice a n c, .slice b m d] w fun r w' => r = .returned (.bool (decide (n ≤ 20) && decide (m ≤ 60))) ∧ w = w' := by
  unfold maxLen at hn hm
  by_cases h1 : n ≤ 20
  · have e1 : (n : Int) ≤ 20 := by omega
    have e2 : decide (n ≤ 20) = true := decide_eq_true h1
    by_cases h2 : m ≤ 60
    · have e3 : (m : Int) ≤ 60 := by omega
      have e4 : decide (m ≤ 60) = true := decide_eq_true h2
      go_enter Tryz.func10, Tryz.ntmps10
      go_wp2_with fail
      go_ret
      exact ⟨ret_b (by first | rfl | (rw [e2, e4]; rfl)), rfl⟩
    · have e3 : ¬ (m : Int) ≤ 60 := by omega
      have e4 : decide (m ≤ 60) = false := decide_eq_false h2
      go_enter Tryz.func10, Tryz.ntmps10
      go_wp2_with fail
      go_ret
      exact ⟨ret_b (by first | rfl | (rw [e2, e4]; rfl)), rfl⟩
  · have e1 : ¬ (n : Int) ≤ 20 := by omega
    have e2 : decide (n ≤ 20) = false := decide_eq_false h1
    go_enter Tryz.func10, Tryz.ntmps10
    go_wp2_with fail
    go_ret
    exact ⟨ret_b (by first | rfl | (rw [e2]; rfl)), rfl⟩
set_option maxHeartbeats 8000000 in
set_option maxRecDepth 20000 in
theorem linChecks_any (H : LinearOk) (F G I : Nat → Prop) (B : List ByteArray) (L : List Ev) (o : List Int) (a b e : Option Addr) (n c m d p q : Nat) (w : World) (hl : SList w F a n c B) (hk : VList w G b m d L) (ho : TList IR w I e p q o) :
    Calls Tryz.prog 3 #[.slice a n c, .slice b m d, .slice e p q] w fun r w' => r = .returned (.bool true) ∧ Below w.heap.size w w' := by
  have HA := Lib.hid (fun W => linAwake_any H W)
  have HL := Lib.hid (fun W => linLight_any a b n c m d (Nat.le_trans hl.cap.1 hl.cap.2) (Nat.le_trans hk.cap.1 hk.cap.2) W)
  have hpm : p ≤ maxLen := Nat.le_trans ho.cap.1 ho.cap.2
  unfold maxLen at hpm
  by_cases h : (n ≤ 20 ∧ m ≤ 60) ∧ p ≤ 60
  · obtain ⟨⟨h1, h2⟩, h3⟩ := h
    rw [decide_eq_true h1, decide_eq_true h2] at HL
    have H1 := Lib.hid (fun W (hb : Below w.heap.size w W) => H.check _ _ _ B L o a b e n c m d p q W (hl.same hb) (hk.same hb) (ho.same hb) (by omega) (by omega) (by omega))
    have H2 := Lib.hid (fun W (hb : Below w.heap.size w W) => refLinCheck_any _ _ _ B L o a b e n c m d p q W (hl.same hb) (hk.same hb) (ho.same hb) (by omega) (by omega))
    have e3 : ¬ (60 : Int) < (p : Int) := by omega
    have e4 : ¬ 60 < p := by omega
    generalize linE B L o = E at *
    clear hl hk ho h1 h2 h3
    go_enter Tryz.func3, Tryz.ntmps3
    go_wp2_with (first
      | (go_at_call 10; ((with_reducible refine (HL.out _).mono ?_); rintro r9 w9 ⟨rfl, rfl⟩))
      | (go_at_call 12; ((with_reducible refine (H1.out _ (Below.refl _ _)).mono ?_); rintro r9 w1 ⟨rfl, hb1⟩))
      | (go_at_call 13; ((with_reducible refine (H2.out _ hb1).mono ?_); rintro r9 w2 ⟨rfl, hb2⟩; have hb := hb1.trans (hb2.mono hb1.size)))
      | (go_at_call 11; ((with_reducible refine (HA.out _).mono ?_); rintro r9 w3 ⟨rfl, hb3⟩)))
    go_ret
    exact ⟨rfl, hb.trans (hb3.mono hb.size)⟩
  · by_cases h1 : n ≤ 20 ∧ m ≤ 60
    · rw [decide_eq_true h1.1, decide_eq_true h1.2] at HL
      have e3 : (60 : Int) < (p : Int) := by omega
      have e4 : 60 < p := by omega
      clear hl hk ho h
      go_enter Tryz.func3, Tryz.ntmps3
      go_wp2_with (first
        | (go_at_call 10; ((with_reducible refine (HL.out _).mono ?_); rintro r9 w9 ⟨rfl, rfl⟩))
        | (go_at_call 11; ((with_reducible refine (HA.out _).mono ?_); rintro r9 w3 ⟨rfl, hb3⟩)))
      go_ret
      exact ⟨rfl, hb3⟩
    · have hd : (decide (n ≤ 20) && decide (m ≤ 60)) = false := by
        cases hq : (decide (n ≤ 20) && decide (m ≤ 60)) with
        | false => rfl
        | true => rw [Bool.and_eq_true, decide_eq_true_eq, decide_eq_true_eq] at hq; exact absurd hq h1
      rw [hd] at HL
      clear hl hk ho h h1 hd
      go_enter Tryz.func3, Tryz.ntmps3
      go_wp2_with (first
        | (go_at_call 10; ((with_reducible refine (HL.out _).mono ?_); rintro r9 w9 ⟨rfl, rfl⟩))
        | (go_at_call 11; ((with_reducible refine (HA.out _).mono ?_); rintro r9 w3 ⟨rfl, hb3⟩)))
      go_ret
      exact ⟨rfl, hb3⟩
set_option maxHeartbeats 8000000 in
set_option maxRecDepth 20000 in
theorem linRaw_any (H : LinearOk) (F G : Nat → Prop) (B : List ByteArray) (L : List Ev) (v : ByteArray) (a b : Option Addr) (n c m d : Nat) (w : World) (hl : SList w F a n c B) (hk : VList w G b m d L) (hv : v.size ≤ maxLen) :
    Calls Tryz.prog 6 #[.slice a n c, .slice b m d, .string v] w fun r w' => r = .returned (.bool true) ∧ Below w.heap.size w w' := by
  have HA := Lib.hid (fun W => linAwake_any H W)
  have HL := Lib.hid (fun W => linLight_any a b n c m d (Nat.le_trans hl.cap.1 hl.cap.2) (Nat.le_trans hk.cap.1 hk.cap.2) W)
  have hmm : m ≤ maxLen := Nat.le_trans hk.cap.1 hk.cap.2
  unfold maxLen at hv hmm
  by_cases h1 : n ≤ 20 ∧ m ≤ 60
  · rw [decide_eq_true h1.1, decide_eq_true h1.2] at HL
    by_cases h2 : m ≤ 14
    · have e1 : ¬ (14 : Int) < (m : Int) := by omega
      have e2 : ¬ 14 < m := by omega
      by_cases h3 : v.size ≤ 100
      · have e3 : ¬ (100 : Int) < (v.size : Int) := by omega
        have e4 : ¬ 100 < v.size := by omega
        have HF := Lib.hid (fun W (hb : Below w.heap.size w W) => H.find _ _ B L a b n c m d W (hl.same hb) (hk.same hb) (by omega) (by omega))
        have HC := Lib.hid (fun W (hb : Below w.heap.size w W) => refCan_any _ _ B L a b n c m d W (hl.same hb) (hk.same hb) (by omega))
        have HB1 := Lib.hid (fun W (hb : Below w.heap.size w W) => H.block _ v L b m d W (hk.same hb) (by omega))
        have HB2 := Lib.hid (fun W (hb : Below w.heap.size w W) => refBlock_any _ v L b m d W (hk.same hb) (by omega))
        have HV1 := Lib.hid (fun W (hb : Below w.heap.size w W) => H.values _ v L b m d W (hk.same hb) (by omega))
        have HV2 := Lib.hid (fun W (hb : Below w.heap.size w W) => refValues_any _ v L b m d W (hk.same hb) (by omega))
        have HK1 := Lib.hid (fun W (hb : Below w.heap.size w W) I o e p q (ho : TList IR W I e p q o) => refLinCheck_any _ _ I B L o a b e n c m d p q W (hl.same hb) (hk.same hb) ho (by omega) (by omega))
        have HK2 := Lib.hid (fun W (hb : Below w.heap.size w W) F I x o e p q (hs : SList W F x 1 1 [v]) (ho : TList IR W I e p q o) => refLinCheck_any F _ I [v] L o x b e 1 1 m d p q W hs (hk.same hb) ho (by omega) (by omega))
        have HSM := Lib.hid (fun W F1 F2 E a1 b1 n1 c1 m1 d1 (l1 : SList W F1 a1 n1 c1 E) (l2 : SList W F2 b1 m1 d1 E) => refBSame_any F1 F2 E a1 b1 n1 c1 m1 d1 W l1 l2)
        unfold FndPost at HF
        unfold CanPost at HC
        unfold BlkPost at HB1 HB2
        unfold ValPost at HV1 HV2
        have hW := Below.refl w.heap.size w
        clear hl hk h1 h2 h3
        go_enter Tryz.func6, Tryz.ntmps6
        go_upto_region 7 with (first
          | (go_at_call 10; ((with_reducible refine (HL.out _).mono ?_); rintro r9 w9 ⟨rfl, rfl⟩))
          | (go_at_call 17; ((with_reducible refine (HF.out _ hW).mono ?_); rintro r9 w1 ⟨oa, on, oc, o, ok, rfl, lo, h9, p1, p2, p3⟩; replace hW := hW.trans (h9.mono hW.size); clear h9))
          | (go_at_call 24; ((with_reducible refine (HC.out _ hW).mono ?_); rintro r9 w2 ⟨cx, cy, rfl, q1, h9⟩; replace lo := lo.same h9; replace hW := hW.trans (h9.mono hW.size); clear h9; obtain rfl : ok = cx := Bool.eq_iff_iff.2 (p1.trans q1.symm); clear p1 q1))
          | (go_at_call 20; ((with_reducible refine (HB1.out _ hW).mono ?_); rintro r9 w3 ⟨pa, pn, pc, pl, is, rfl, lp, h9, r1, r2, r3⟩; replace lo := lo.same h9; replace hW := hW.trans (h9.mono hW.size); clear h9))
          | (go_at_call 19; ((with_reducible refine (HB2.out _ hW).mono ?_); rintro r9 w4 ⟨_, _, _, _, ib, rfl, -, h9, s1, -, -⟩; replace lo := lo.same h9; replace lp := lp.same h9; replace hW := hW.trans (h9.mono hW.size); clear h9; obtain rfl : is = ib := Bool.eq_iff_iff.2 (r1.trans s1.symm); clear r1 s1)))
        go_upto_region 9 with (first
          | (go_at_call 22; ((with_reducible refine (HV1.out _ hW).mono ?_); rintro r9 w5 ⟨ua, un, uc, E1, rfl, lu, h9, a1, a2⟩; replace lo := lo.same h9; replace lp := lp.same h9; replace hW := hW.trans (h9.mono hW.size); clear h9))
          | (go_at_call 23; ((with_reducible refine (HV2.out _ hW).mono ?_); rintro r9 w6 ⟨va, vn, vc, E2, rfl, lv, h9, a3, a4⟩; replace lo := lo.same h9; replace lp := lp.same h9; replace lu := lu.same h9; replace hW := hW.trans (h9.mono hW.size); clear h9; obtain rfl : E1 = E2 := asc_only a1 a3 (fun u => (a2 u).trans (a4 u).symm); clear a1 a2 a3 a4))
          | (go_at_call 21; ((with_reducible refine (HSM.out _ _ _ _ _ _ _ _ _ _ lu lv).mono ?_); rintro r9 w7 ⟨rfl, h9⟩; replace lo := lo.same h9; replace lp := lp.same h9; replace hW := hW.trans (h9.mono hW.size); clear h9 lu lv)))
        have hon := lo.length
        have hpn := lp.length
        have KZ := (Env.start w7).al (.cells #[.string v] 9)
        have lZ : SList _ (fun b => w7.heap.size ≤ b) (some ⟨_, 0, none⟩) 1 1 [v] := lit_list (R := SR) (L := [v]) (KZ.get 0 rfl) (KZ.lo 0 rfl) (show 1 ≤ maxLen by unfold maxLen; decide)
        clear HF HC HB1 HB2 HV1 HV2 HSM HL
        cases ok with
        | false =>
          obtain rfl := p3 rfl
          obtain rfl : 0 = on := hon
          clear p2 p3
          cases is with
          | false =>
            obtain rfl := r3 rfl
            obtain rfl : 0 = pn := hpn
            clear KZ lZ
            go_wp2_with (first
              | (go_at_call 11; ((with_reducible refine (HA.out _).mono ?_); rintro r9 w9 ⟨rfl, h9⟩; replace hW := hW.trans (h9.mono hW.size); clear h9)))
            go_ret
            exact ⟨rfl, hW⟩
          | true =>
            have hr := r2 rfl
            have hWZ := hW.alloc hW.size (.cells #[.string v] 9)
            go_wp2_with (first
              | (go_at_call 13; ((with_reducible refine (HK2.out _ hWZ _ _ _ _ _ _ _ lZ (lp.same KZ.hb)).mono ?_); rw [hr]; rintro r9 w10 ⟨rfl, h9⟩; replace hW := hWZ.trans (h9.mono hWZ.size); clear h9))
              | (go_at_call 11; ((with_reducible refine (HA.out _).mono ?_); rintro r9 w9 ⟨rfl, h9⟩; replace hW := hW.trans (h9.mono hW.size); clear h9)))
            go_ret
            exact ⟨rfl, hW⟩
        | true =>
          have ho := p2 rfl
          clear p2 p3
          cases is with
          | false =>
            obtain rfl := r3 rfl
            obtain rfl : 0 = pn := hpn
            clear KZ lZ
            go_wp2_with (first
              | (go_at_call 13; ((with_reducible refine (HK1.out _ hW _ _ _ _ _ lo).mono ?_); rw [ho]; rintro r9 w8 ⟨rfl, h9⟩; replace lp := lp.same h9; replace hW := hW.trans (h9.mono hW.size); clear h9))
              | (go_at_call 11; ((with_reducible refine (HA.out _).mono ?_); rintro r9 w9 ⟨rfl, h9⟩; replace hW := hW.trans (h9.mono hW.size); clear h9)))
            go_ret
            exact ⟨rfl, hW⟩
          | true =>
            have hr := r2 rfl
            clear KZ lZ
            go_wp2_with (first
              | (go_at_call 13; ((with_reducible refine (HK1.out _ hW _ _ _ _ _ lo).mono ?_); rw [ho]; rintro r9 w8 ⟨rfl, h9⟩; have KZ := (Env.start w8).al (.cells #[.string v] 9); have lZ : SList _ (fun b => w8.heap.size ≤ b) (some ⟨_, 0, none⟩) 1 1 [v] := lit_list (R := SR) (L := [v]) (KZ.get 0 rfl) (KZ.lo 0 rfl) (show 1 ≤ maxLen by unfold maxLen; decide); replace lp := lp.same h9; replace hW := hW.trans (h9.mono hW.size); clear h9; have hWZ := hW.alloc hW.size (.cells #[.string v] 9)))
              | (go_at_call 13; ((with_reducible refine (HK2.out _ hWZ _ _ _ _ _ _ _ lZ (lp.same KZ.hb)).mono ?_); rw [hr]; rintro r9 w10 ⟨rfl, h9⟩; replace hW := hWZ.trans (h9.mono hWZ.size); clear h9))
              | (go_at_call 11; ((with_reducible refine (HA.out _).mono ?_); rintro r9 w9 ⟨rfl, h9⟩; replace hW := hW.trans (h9.mono hW.size); clear h9)))
            go_ret
            exact ⟨rfl, hW⟩
      · have e3 : (100 : Int) < (v.size : Int) := by omega
        have e4 : 100 < v.size := by omega
        clear hl hk
        go_enter Tryz.func6, Tryz.ntmps6
        go_wp2_with (first
          | (go_at_call 10; ((with_reducible refine (HL.out _).mono ?_); rintro r9 w9 ⟨rfl, rfl⟩))
          | (go_at_call 11; ((with_reducible refine (HA.out _).mono ?_); rintro r9 w3 ⟨rfl, hb3⟩)))
        go_ret
        exact ⟨rfl, hb3⟩
    · have e1 : (14 : Int) < (m : Int) := by omega
      have e2 : 14 < m := by omega
      clear hl hk
      go_enter Tryz.func6, Tryz.ntmps6
      go_wp2_with (first
        | (go_at_call 10; ((with_reducible refine (HL.out _).mono ?_); rintro r9 w9 ⟨rfl, rfl⟩))
        | (go_at_call 11; ((with_reducible refine (HA.out _).mono ?_); rintro r9 w3 ⟨rfl, hb3⟩)))
      go_ret
      exact ⟨rfl, hb3⟩
  · have hd : (decide (n ≤ 20) && decide (m ≤ 60)) = false := by
      cases hq : (decide (n ≤ 20) && decide (m ≤ 60)) with
      | false => rfl
      | true => rw [Bool.and_eq_true, decide_eq_true_eq, decide_eq_true_eq] at hq; exact absurd hq h1
    rw [hd] at HL
    clear hl hk
    go_enter Tryz.func6, Tryz.ntmps6
    go_wp2_with (first
      | (go_at_call 10; ((with_reducible refine (HL.out _).mono ?_); rintro r9 w9 ⟨rfl, rfl⟩))
      | (go_at_call 11; ((with_reducible refine (HA.out _).mono ?_); rintro r9 w3 ⟨rfl, hb3⟩)))
    go_ret
    exact ⟨rfl, hb3⟩
end Go.Proofs.YtnmhnjjehglcfaaGreat.Ents

/- A list of numbers that comes in, as a list that is read. -/
namespace Go.Proofs.YtnmhnjjehglcfaaGreat.Ents
open Go.RowKit Plan Rws Env
theorem ir_of_row {w : World} {a : Option Addr} {n c : Nat} {Z : List Int} (h : IsRow .i64 w a n c Z) : TList IR w (fun _ => True) a n c (Z.take n) := by
  rcases h with ⟨rfl, rfl, rfl, rfl⟩ | ⟨x, rfl, h1, h2, h3, h4, _⟩
  · exact TList.nil _ _
  · by_cases hc : c = 0
    · subst hc
      obtain rfl : n = 0 := by omega
      exact .inl ⟨trivial, rfl, rfl, by simp⟩
    have hb : x.block < w.heap.size := by
      have := World.block_lt_of_cell? w _ (h4 0 (by omega))
      rwa [ent_add_block] at this
    refine .inr ⟨x, rfl, h1, h2, by rw [List.length_take]; omega, hb, trivial, fun j u hu => ?_⟩
    have hj : j < n := by
      have := (List.getElem?_eq_some_iff.1 hu).1
      rw [all_length irOk, List.length_take] at this
      have e : IR.sz = 1 := rfl
      rw [e] at this
      omega
    have hz : Z[j]? = some (Z.getD j 0) := by rw [List.getD_eq_getElem?_getD, List.getElem?_eq_getElem (by omega)]; rfl
    have h5 := all_get irOk (L := Z.take n) (i := j) (e := Z.getD j 0) (by rw [List.getElem?_take, if_pos hj]; exact hz) 0 (by decide)
    rw [show j * IR.sz + 0 = j from Nat.mul_one j, hu] at h5
    obtain rfl := Option.some.inj h5
    exact h4 j (by omega)
end Go.Proofs.YtnmhnjjehglcfaaGreat.Ents

/- Rings: what layer 16 of the document says of them. Plain mathematics. -/
namespace Go.Proofs.YtnmhnjjehglcfaaGreat.RingMath
structure Rq where
  serial : Int
  kind : Int
  block : Int
  data : ByteArray
end Go.Proofs.YtnmhnjjehglcfaaGreat.RingMath

/- Rings in memory; the walk of the document's Valid. -/
namespace Go.Proofs.YtnmhnjjehglcfaaGreat.Ents
open Go.RowKit Plan RingMath Rws
end Go.Proofs.YtnmhnjjehglcfaaGreat.Ents

/- Entries, places and lists of entries that come in. -/
namespace Go.Proofs.YtnmhnjjehglcfaaGreat.Ents
open Go.ChangeShapes Go.WideShapes Go.RowKit EntMath
set_option maxRecDepth 20000 in
theorem ent_cells_int : Tryz.prog.cellsOf 3 = 1 := by kernel_rfl
set_option maxRecDepth 20000 in
theorem ent_some {α : Type} {l : List α} {i n : Nat} (hl : l.length = n) (hi : i < n) : ∃ y, l[i]? = some y := ⟨l[i]'(by omega), List.getElem?_eq_getElem (by omega)⟩
section
variable {H : Type} {enc : TypeId × Value → H} {w : World} {base : Nat} {spare : Nat → Bool} {held : Bool}
end
end Go.Proofs.YtnmhnjjehglcfaaGreat.Ents

/- Lists of elements of any type that come in; how long they may be. -/
namespace Go.Proofs.YtnmhnjjehglcfaaGreat.Rws
open Go.ChangeShapes Go.WideShapes Go.RowKit Ents
section
variable {H : Type} {enc : TypeId × Value → H} {w : World} {base : Nat} {spare : Nat → Bool} {held : Bool} {α : Type} {R : Row α}
theorem rows_block {a : Addr} {i k n : Nat} {cs : List Value} (hk : 0 < k) (h : w.cells? n (a.add i) k = some cs) : a.block < w.heap.size := by
  obtain ⟨_, h1, h2⟩ := World.cells?_some h
  have h4 : cs[0]? = some (cs[0]'(by omega)) := List.getElem?_eq_getElem _
  have := World.block_lt_of_cell? w _ ((h2 0 hk).trans h4)
  rwa [ent_add_block, ent_add_block] at this
set_option maxRecDepth 20000 in
theorem trod_rows (hR : R.Ok) (hc : Tryz.prog.cellsOf R.et = R.sz) (hE : ∀ {fuel : Nat} {cs : List Value} {x : DataW H × List MemPlace}, DataW.trod enc Tryz.prog w base spare held fuel R.et cs = some x → ∃ e, cs = R.c e)
    (hs : ∀ b, spare b = true) {fuel : Nat} {cs : List Value} {x : DataW H × List MemPlace} (h : DataW.trod enc Tryz.prog w base spare held fuel R.st cs = some x) : ∃ a len cap L, cs = [.slice a len cap] ∧ TList R w (fun b => b < w.heap.size) a len cap L := by
  rcases DataW.trod_slice hR.und h with ⟨rfl, _⟩ | ⟨a, len, cap, elems, rest, n, _, rfl, _, _, hl, hm, hlen, hel, hsp, _⟩
  · exact ⟨none, 0, 0, [], rfl, .inl ⟨trivial, rfl, rfl, rfl⟩⟩
  rw [hc] at hel hsp
  by_cases hcap : cap = 0
  · subst hcap
    obtain rfl : len = 0 := by omega
    exact ⟨some a, 0, 0, [], rfl, .inl ⟨trivial, rfl, rfl, rfl⟩⟩
  have hblk : a.block < w.heap.size := by
    by_cases h0 : 0 < len
    · obtain ⟨y, hy⟩ := ent_some hlen h0
      have h1 := (hel 0 h0).trans hy
      rw [Option.bind_eq_some_iff] at h1
      obtain ⟨cs, hcs, _⟩ := h1
      exact rows_block hR.pos hcs
    · obtain ⟨hr, hre⟩ := hsp (hs _)
      obtain ⟨y, hy⟩ := ent_some hr (i := 0) (by omega)
      have h1 := (hre 0 (by omega)).trans hy
      rw [Option.bind_eq_some_iff] at h1
      obtain ⟨cs, hcs, _⟩ := h1
      exact rows_block hR.pos hcs
  have each : ∀ i, i < len → ∃ e : α, ∀ j u, (R.c e)[j]? = some u → w.cell? (a.add (i * R.sz + j)) = some u := by
    intro i hi
    obtain ⟨y, hy⟩ := ent_some hlen hi
    have h1 := (hel i hi).trans hy
    rw [Option.bind_eq_some_iff] at h1
    obtain ⟨cs, hcs, ht⟩ := h1
    obtain ⟨e, rfl⟩ := hE ht
    refine ⟨e, fun j u hu => ?_⟩
    obtain ⟨h1, h2⟩ := World.cells?_some hcs
    have hj : j < R.sz := by have := (List.getElem?_eq_some_iff.1 hu).1; rwa [hR.len] at this
    have := (h2.2 j hj).trans hu
    rwa [Addr.add_add] at this
  have build : ∀ n, n ≤ len → ∃ L : List α, L.length = n ∧ ∀ j u, (R.all L)[j]? = some u → w.cell? (a.add j) = some u := by
    intro n
    induction n with
    | zero => intro _; exact ⟨[], rfl, fun j u hu => by simp [Row.all] at hu⟩
    | succ n ih =>
      intro hn
      obtain ⟨L, hL, hall⟩ := ih (by omega)
      obtain ⟨e, he⟩ := each n (by omega)
      refine ⟨L ++ [e], by simp [hL], fun j u hu => ?_⟩
      rw [all_append, all_one] at hu
      rcases Nat.lt_or_ge j (n * R.sz) with hj | hj
      · rw [List.getElem?_append_left (by rw [all_length hR, hL]; exact hj)] at hu
        exact hall j u hu
      · rw [List.getElem?_append_right (by rw [all_length hR, hL]; exact hj), all_length hR, hL] at hu
        have := he (j - n * R.sz) u hu
        rwa [show n * R.sz + (j - n * R.sz) = j by omega] at this
  obtain ⟨L, hL, hall⟩ := build len (Nat.le_refl _)
  exact ⟨some a, len, cap, L, rfl, .inr ⟨a, rfl, hl, hm, hL, hblk, hblk, hall⟩⟩
end
end Go.Proofs.YtnmhnjjehglcfaaGreat.Rws

/- Requests and rings that come in. -/
namespace Go.Proofs.YtnmhnjjehglcfaaGreat.Ents
open Go.ChangeShapes Go.WideShapes Go.RowKit RingMath Rws
set_option maxRecDepth 20000 in
theorem comd_cells : Tryz.prog.cellsOf 51 = 3 := by kernel_rfl
set_option maxRecDepth 20000 in
theorem rstr_cells : Tryz.prog.cellsOf 9 = 1 := by kernel_rfl
section
variable {H : Type} {enc : TypeId × Value → H} {w : World} {base : Nat} {spare : Nat → Bool}
set_option maxRecDepth 20000 in
theorem trod_comd {held : Bool} {fuel : Nat} {cs : List Value} {x : DataW H × List MemPlace} (h : DataW.trod enc Tryz.prog w base spare held fuel 51 cs = some x) : ∃ (k b : Int) (s : ByteArray), cs = [.int .i64 k, .int .i64 b, .string s] ∧ s.size ≤ maxLen := by
  obtain ⟨xs, n, _, _, hl4, hlen, hg⟩ := DataW.trod_struct Tryz.underlying51 h
  rw [comd_cells] at hl4
  match cs, hl4 with
  | [x0, x1, x2], _ =>
    have hl : xs.length = 3 := hlen
    obtain ⟨y0, e0⟩ := ent_some hl (i := 0) (by decide)
    obtain ⟨y1, e1⟩ := ent_some hl (i := 1) (by decide)
    obtain ⟨y2, e2⟩ := ent_some hl (i := 2) (by decide)
    have g0 : DataW.trod enc Tryz.prog w base spare held n 3 (([x0, x1, x2].drop 0).take (Tryz.prog.cellsOf 3)) = some y0 := (hg 0 _ rfl).trans e0
    rw [ent_cells_int] at g0
    have g1 : DataW.trod enc Tryz.prog w base spare held n 3 (([x0, x1, x2].drop 1).take (Tryz.prog.cellsOf 3)) = some y1 := (hg 1 _ rfl).trans e1
    rw [ent_cells_int] at g1
    have g2 : DataW.trod enc Tryz.prog w base spare held n 9 (([x0, x1, x2].drop 2).take (Tryz.prog.cellsOf 9)) = some y2 := (hg 2 _ rfl).trans e2
    rw [rstr_cells] at g2
    obtain ⟨k, h0, _⟩ := DataW.trod_int Tryz.underlying3 g0
    obtain ⟨b, h1, _⟩ := DataW.trod_int Tryz.underlying3 g1
    obtain ⟨s, h2, _, w2⟩ := DataW.trod_string Tryz.underlying9 g2
    simp at h0 h1 h2
    exact ⟨k, b, s, by rw [h0, h1, h2], w2⟩
end
end Go.Proofs.YtnmhnjjehglcfaaGreat.Ents

/- Lists of events that come in. -/
namespace Go.Proofs.YtnmhnjjehglcfaaGreat.Ents
open Go.ChangeShapes Go.WideShapes Go.RowKit HisMath Rws
set_option maxRecDepth 20000 in
theorem ev_cellsOf : Tryz.prog.cellsOf 55 = 8 := by kernel_rfl
set_option maxRecDepth 20000 in
theorem res_cellsOf : Tryz.prog.cellsOf 53 = 2 := by kernel_rfl
set_option maxRecDepth 20000 in
theorem errno_cellsOf : Tryz.prog.cellsOf 27 = 1 := by kernel_rfl
set_option maxRecDepth 20000 in
theorem bool_cellsOf : Tryz.prog.cellsOf 4 = 1 := by kernel_rfl
set_option maxRecDepth 20000 in
theorem vr_cellsOf : Tryz.prog.cellsOf VR.et = VR.sz := by kernel_rfl
section
variable {H : Type} {enc : TypeId × Value → H} {w : World} {base : Nat} {spare : Nat → Bool}
set_option maxRecDepth 20000 in
theorem trod_result {held : Bool} {fuel : Nat} {cs : List Value} {x : DataW H × List MemPlace} (h : DataW.trod enc Tryz.prog w base spare held fuel 53 cs = some x) : ∃ (k : Int) (s : ByteArray), cs = [.int .i64 k, .string s] := by
  obtain ⟨xs, n, _, _, hl4, hlen, hg⟩ := DataW.trod_struct Tryz.underlying53 h
  rw [res_cellsOf] at hl4
  match cs, hl4 with
  | [x0, x1], _ =>
    have hl : xs.length = 2 := hlen
    obtain ⟨y0, e0⟩ := ent_some hl (i := 0) (by decide)
    obtain ⟨y1, e1⟩ := ent_some hl (i := 1) (by decide)
    have g0 : DataW.trod enc Tryz.prog w base spare held n 27 (([x0, x1].drop 0).take (Tryz.prog.cellsOf 27)) = some y0 := (hg 0 _ rfl).trans e0
    rw [errno_cellsOf] at g0
    have g1 : DataW.trod enc Tryz.prog w base spare held n 9 (([x0, x1].drop 1).take (Tryz.prog.cellsOf 9)) = some y1 := (hg 1 _ rfl).trans e1
    rw [rstr_cells] at g1
    obtain ⟨k, h0, _⟩ := DataW.trod_int Tryz.underlying27 g0
    obtain ⟨s, h1, _, _⟩ := DataW.trod_string Tryz.underlying9 g1
    simp at h0 h1
    exact ⟨k, s, by rw [h0, h1]⟩
set_option maxRecDepth 20000 in
theorem trod_event {held : Bool} {fuel : Nat} {cs : List Value} {x : DataW H × List MemPlace} (h : DataW.trod enc Tryz.prog w base spare held fuel 55 cs = some x) : ∃ r : Ev, cs = VR.c r := by
  obtain ⟨xs, n, _, _, hl4, hlen, hg⟩ := DataW.trod_struct Tryz.underlying55 h
  rw [ev_cellsOf] at hl4
  match cs, hl4 with
  | [x0, x1, x2, x3, x4, x5, x6, x7], _ =>
    have hl : xs.length = 5 := hlen
    obtain ⟨y0, e0⟩ := ent_some hl (i := 0) (by decide)
    obtain ⟨y1, e1⟩ := ent_some hl (i := 1) (by decide)
    obtain ⟨y2, e2⟩ := ent_some hl (i := 2) (by decide)
    obtain ⟨y3, e3⟩ := ent_some hl (i := 3) (by decide)
    obtain ⟨y4, e4⟩ := ent_some hl (i := 4) (by decide)
    have g0 : DataW.trod enc Tryz.prog w base spare held n 4 (([x0, x1, x2, x3, x4, x5, x6, x7].drop 0).take (Tryz.prog.cellsOf 4)) = some y0 := (hg 0 _ rfl).trans e0
    rw [bool_cellsOf] at g0
    have g1 : DataW.trod enc Tryz.prog w base spare held n 3 (([x0, x1, x2, x3, x4, x5, x6, x7].drop 1).take (Tryz.prog.cellsOf 3)) = some y1 := (hg 1 _ rfl).trans e1
    rw [ent_cells_int] at g1
    have g2 : DataW.trod enc Tryz.prog w base spare held n 3 (([x0, x1, x2, x3, x4, x5, x6, x7].drop 2).take (Tryz.prog.cellsOf 3)) = some y2 := (hg 2 _ rfl).trans e2
    rw [ent_cells_int] at g2
    have g3 : DataW.trod enc Tryz.prog w base spare held n 51 (([x0, x1, x2, x3, x4, x5, x6, x7].drop 3).take (Tryz.prog.cellsOf 51)) = some y3 := (hg 3 _ rfl).trans e3
    rw [comd_cells] at g3
    have g4 : DataW.trod enc Tryz.prog w base spare held n 53 (([x0, x1, x2, x3, x4, x5, x6, x7].drop 6).take (Tryz.prog.cellsOf 53)) = some y4 := (hg 4 _ rfl).trans e4
    rw [res_cellsOf] at g4
    obtain ⟨r, h0, _⟩ := DataW.trod_bool Tryz.underlying4 g0
    obtain ⟨q, h1, _⟩ := DataW.trod_int Tryz.underlying3 g1
    obtain ⟨z, h2, _⟩ := DataW.trod_int Tryz.underlying3 g2
    obtain ⟨k, b, s, h3, _⟩ := trod_comd g3
    obtain ⟨e, t, h4⟩ := trod_result g4
    simp at h0 h1 h2 h3 h4
    exact ⟨⟨r, q, z, k, b, s, e, t⟩, by rw [h0, h1, h2, h3.1, h3.2.1, h3.2.2, h4.1, h4.2]; rfl⟩
set_option maxRecDepth 20000 in
theorem open_evs {r : Reach} {b0 : Nat} {v : Value} {d : DataW H} {p : List MemPlace} (hs : ∀ b, spare b = true)
    (hok : Value.okWide Tryz.prog w r b0 23 v) (h : DataW.Trod enc Tryz.prog w base spare true 23 v d p) :
    ∃ (a : Option Addr) (n c : Nat) (L : List Ev), v = .slice a n c ∧ VList w (fun b => b < w.heap.size) a n c L := by
  obtain ⟨a, n, c, rfl⟩ := okWide_slice Tryz.underlying23 hok
  obtain ⟨fuel, hf⟩ := h
  obtain ⟨b, m, k, L, e, h2⟩ := trod_rows vrOk vr_cellsOf (fun h => trod_event h) hs hf
  simp [Value.cells] at e
  obtain ⟨rfl, rfl, rfl⟩ := e
  exact ⟨_, _, _, L, rfl, h2⟩
end
end Go.Proofs.YtnmhnjjehglcfaaGreat.Ents

/- Lists of strings and of commands that come in. -/
namespace Go.Proofs.YtnmhnjjehglcfaaGreat.Ents
open Go.ChangeShapes Go.WideShapes Go.RowKit ModMath CmdMath Rws
set_option maxRecDepth 20000 in
theorem mstr_cells : Tryz.prog.cellsOf SR.et = SR.sz := by kernel_rfl
section
variable {H : Type} {enc : TypeId × Value → H} {w : World} {base : Nat} {spare : Nat → Bool}
set_option maxRecDepth 20000 in
theorem open_strs {r : Reach} {b0 : Nat} {v : Value} {d : DataW H} {p : List MemPlace} (hs : ∀ b, spare b = true)
    (hok : Value.okWide Tryz.prog w r b0 22 v) (h : DataW.Trod enc Tryz.prog w base spare true 22 v d p) :
    ∃ (a : Option Addr) (n c : Nat) (L : List ByteArray), v = .slice a n c ∧ SList w (fun b => b < w.heap.size) a n c L := by
  obtain ⟨a, n, c, rfl⟩ := okWide_slice Tryz.underlying22 hok
  obtain ⟨fuel, hf⟩ := h
  obtain ⟨b, m, k, L, e, h2⟩ := trod_rows srOk mstr_cells (fun h => by
    obtain ⟨s, h2, _, w2⟩ := DataW.trod_string Tryz.underlying9 h
    exact ⟨s, show _ = [Value.string s] by simpa using h2⟩) hs hf
  simp [Value.cells] at e
  obtain ⟨rfl, rfl, rfl⟩ := e
  exact ⟨_, _, _, L, rfl, h2⟩
end
end Go.Proofs.YtnmhnjjehglcfaaGreat.Ents

/- LinearChecks: the program's Check says which orders are linearizations, as the document's own, for any events. No condition. -/
namespace Go.Proofs.YtnmhnjjehglcfaaGreat.linearChecks
open Go.ChangeShapes Go.WideShapes Go.ChangeAt Go.RowKit
open Go.ChangeMaps (open_string shut_string)
set_option linter.unusedVariables false

theorem own : ownKnob Tryz.prog.godebug = none := by kernel_rfl
theorem laidOut : laidOutB Tryz.prog = true := by kernel_rfl

theorem walk (sa0 : Option Addr) (sn0 sc0 : Nat) (sl0 : List ByteArray) (ea1 : Option Addr) (en1 ec1 : Nat) (el1 : List HisMath.Ev) (a2 : Option Addr) (l2 c2 : Nat) (z2 : List Int) (w : World) (w0 : Ents.SList w (fun b => b < w.heap.size) sa0 sn0 sc0 sl0) (w1 : Ents.VList w (fun b => b < w.heap.size) ea1 en1 ec1 el1) (w2 : IsRow .i64 w a2 l2 c2 z2) :
    Calls Tryz.prog 3 #[.slice sa0 sn0 sc0, .slice ea1 en1 ec1, .slice a2 l2 c2] w fun e w' => e = .returned (.bool true) ∧ Below w.heap.size w w' := by
  exact Ents.linChecks_any Ents.linearOk _ _ _ sl0 el1 _ sa0 ea1 a2 sn0 sc0 en1 ec1 l2 c2 w w0 w1 (Ents.ir_of_row w2)

set_option maxRecDepth 100000 in
theorem lifted (os : Os) (started : os.Started) (H : Type) (enc : TypeId × Value → H) :
    ReturnsInHanded {} Tryz.checked os 3 .any (Rows.linearChecksSpec.pre6 enc Tryz.prog Tryz.f3 Rows.linearChecksRow.domain false) (Rows.linearChecksSpec.post enc Tryz.prog Tryz.f3 false true false false) := by
  refine returnsInHanded_of_change (C := Tryz.checked) own started (by kernel_rfl) Tryz.func3
    (ChangeSpec.witness6 (enc := enc) (C := Tryz.checked) false ⟨#[], #[.slice none 0 0, .slice none 0 0, .slice none 0 0], []⟩ 8 (by kernel_rfl) (by kernel_rfl) (by kernel_rfl) (by kernel_rfl)) ?_
  intro W base args ds gs before hval0 hW hcnd _
  have hval : ∀ (j : Nat) t v, Tryz.f3.params[j]? = some t → args[j]? = some v → Value.okWide Tryz.prog W .any base t v := hval0
  have hW' := hW
  obtain ⟨p, q, hA0, hV, rfl, hfz, hnd⟩ := hW
  have hA : DataW.TrodAll enc Tryz.prog W 0 (fun _ => true) true Tryz.f3.params.toList args.toList ds p := hA0
  rw [Tryz.params3] at hA hval
  obtain ⟨v0, vs0, d0, ds0, p0, q0, hargs, rfl, rfl, h0, r0⟩ := trodAll_cons hA
  obtain ⟨v1, vs1, d1, ds1, p1, q1, rfl, rfl, rfl, h1, r1⟩ := trodAll_cons r0
  obtain ⟨v2, vs2, d2, ds2, p2, q2, rfl, rfl, rfl, h2, r2⟩ := trodAll_cons r1
  obtain ⟨rfl, rfl, rfl⟩ := trodAll_nil r2
  obtain rfl : args = #[v0, v1, v2] := by cases args; simp_all
  obtain ⟨rfl, rfl⟩ := trodVars_none hV
  have k0' := h0
  have lt0 : ∀ x ∈ p0, x.block < W.heap.size := by obtain ⟨m, hm⟩ := h0; exact DataW.trod_lt m _ _ _ hm
  have k1' := h1
  have lt1 : ∀ x ∈ p1, x.block < W.heap.size := by obtain ⟨m, hm⟩ := h1; exact DataW.trod_lt m _ _ _ hm
  have k2' := h2
  have lt2 : ∀ x ∈ p2, x.block < W.heap.size := by obtain ⟨m, hm⟩ := h2; exact DataW.trod_lt m _ _ _ hm
  obtain ⟨sa0, sn0, sc0, sl0, rfl, w0⟩ := Ents.open_strs (fun _ => rfl) (hval 0 22 v0 rfl rfl) h0
  obtain ⟨ea1, en1, ec1, el1, rfl, w1⟩ := Ents.open_evs (fun _ => rfl) (hval 1 23 v1 rfl rfl) h1
  obtain ⟨a2, l2, c2, rfl⟩ := okWide_slice Tryz.underlying24 (hval 2 24 v2 rfl rfl)
  obtain ⟨z2, w2⟩ : ∃ zs, IsRow .i64 W a2 l2 c2 zs := by
    obtain ⟨fuel, hf⟩ := h2
    rcases open_ints Tryz.underlying24 Tryz.underlying3 (by kernel_rfl) hf with ⟨hcs, _⟩ | ⟨x, l, c, zs, hcs, _, hl, hm, hz, _, hcell, hwz⟩
    · simp [Value.cells] at hcs
      obtain ⟨rfl, rfl, rfl⟩ := hcs
      exact ⟨[], .inl ⟨rfl, rfl, rfl, rfl⟩⟩
    · simp [Value.cells] at hcs
      obtain ⟨rfl, rfl, rfl⟩ := hcs
      exact ⟨zs, .inr ⟨_, rfl, hl, hm, by simpa using hz, hcell, hwz⟩⟩
  clear hA0 hval0
  refine (walk sa0 sn0 sc0 sl0 ea1 en1 ec1 el1 a2 l2 c2 z2 W w0 w1 w2).mono fun e W' ⟨he, bel⟩ => ?_
  subst he
  exact ⟨_, rfl, _, _, _, [], _, [], hW', trodAll_mk1 (shut_bool Tryz.underlying4 _), (trodAll_cons_mk (Below.trod laidOut (by kernel_rfl) (of_decide_eq_true (by kernel_rfl)) k0' bel lt0) (trodAll_cons_mk (Below.trod laidOut (by kernel_rfl) (of_decide_eq_true (by kernel_rfl)) k1' bel lt1) (trodAll_cons_mk (Below.trod laidOut (by kernel_rfl) (of_decide_eq_true (by kernel_rfl)) k2' bel lt2) trodAll_mk0))), rfl, bel.frame _, fun h => by cases h⟩

theorem over : Rows.linearChecksRow.holds Tryz.pinned (OpenSpec.ofChange Rows.linearChecksSpec) :=
  OpenClaim.holds_of_wide 3 Tryz.f3 rfl rfl rfl rfl rfl rfl rfl ⟨rfl, rfl, rfl, rfl, rfl⟩ rfl rfl rfl rfl rfl (by kernel_rfl) Tryz.func3 (by kernel_rfl)
    (of_decide_eq_true (by kernel_rfl)) (by unfold Func.isWrapper; first | (rw [if_pos (by decide +kernel)]; kernel_rfl) | (rw [if_neg (by decide +kernel)]; exact ⟨rfl, rfl⟩))
    (fun os started H enc _ => lifted os started H enc)
end Go.Proofs.YtnmhnjjehglcfaaGreat.linearChecks

namespace Go.Proofs.YtnmhnjjehglcfaaGreat
theorem linearChecks_holds : Rows.LinearChecksSaid := linearChecks.over
end Go.Proofs.YtnmhnjjehglcfaaGreat
