/- Texts that belong together, part 41. -/
import Derived.Test.YtnmhnjjehglcfaaGreatPack40

/- The walks of the program's isLinearization and Check: all that the laws ask of the program. -/
namespace Go.Proofs.YtnmhnjjehglcfaaGreat.Ents
open Go.RowKit Plan HisMath LinMath ModMath CmdMath Rws Env LayMath SrchM
set_option maxHeartbeats 8000000 in
set_option maxRecDepth 20000 in
theorem isLin_any (F G I : Nat → Prop) (B : List ByteArray) (L : List Ev) (o : List Int) (a b e : Option Addr) (n c m d p q : Nat) (w : World) (hl : SList w F a n c B) (hk : VList w G b m d L) (ho : TList IR w I e p q o) (hn : n ≤ 8796093022208) (hm : m ≤ 100000) (hp : p ≤ 100000) (hR : Right L) :
    Calls Tryz.prog 39 #[.slice a n c, .slice b m d, .slice e p q] w fun r w' => r = .returned (.bool (linOk B L o)) ∧ Below w.heap.size w w' := by
  have hlm := hk.length
  have HPK := Lib.hid (pick_any G I L o b e m d p q w hk ho hm hp (by rw [← hlm]; exact fun x hx y hy h => ops_one hR hx hy h) (by rw [← hlm]; exact ops_pend hR))
  have HOR := Lib.hid (fun W (h : Below w.heap.size w W) => inOrder_any _ _ L o b e m d p q W (hk.same h) (ho.same h) hm)
  have HHR := Lib.hid (fun W X (a2 : Option Addr) (n2 c2 : Nat) (F2 : Nat → Prop) (h : Below w.heap.size w W) (h2 : VList W F2 a2 n2 c2 X) (h3 : n2 ≤ 100000) => hasResults_any _ F2 B X a a2 n c n2 c2 W (hl.same h) h2 hn h3)
  have HLN := Lib.hid (lin_pick (B := B) (o := o) hR)
  rw [hlm] at HLN
  have HONE := Lib.hid (show ∀ x ∈ opsE L m, ∀ y ∈ opsE L m, x.serial = y.serial → x = y from by rw [← hlm]; exact fun x hx y hy h => ops_one hR hx hy h)
  have hol := Lib.hid ho.length
  unfold PickPost at HPK
  unfold IffPost at HOR HHR
  generalize linOk B L o = A at *
  clear hl hk ho hR
  have hb := Below.refl w.heap.size w
  go_enter Tryz.func39, Tryz.ntmps39
  go_upto_region 2 with (first
    | (go_at_call 71; ((with_reducible refine HPK.out.mono ?_); rintro r9 w1 ⟨xa, xn, xc, xs, z, rfl, lx, h9, hy, hno⟩; replace hb := hb.trans h9; clear h9 HPK)))
  cases z with
  | false =>
    have HX := Lib.hid (show A = false from by
      cases hA : A with
      | false => rfl
      | true =>
        obtain ⟨ys, h1, _⟩ := HLN.out.1 hA
        exact absurd ⟨ys, h1⟩ (hno rfl))
    clear hy hno lx
    go_wp2_with fail
    go_ret
    exact ⟨ret_b HX.out.symm, hb⟩
  | true =>
    have HP := Lib.hid (hy rfl)
    have hxn := lx.length
    have hxp : xn ≤ 100000 := by
      have h1 : o.length = xs.length := by rw [HP.out.1, List.length_map]
      have h2 := hol.out
      omega
    have HLX := Lib.hid lx
    clear hy hno lx hxn
    have HUN := Lib.hid (show A = true ↔ OrdP L m o ∧ ResP B xs from HLN.out.trans ⟨fun ⟨ys, h1, h2, h3⟩ => by rw [pick_one HONE.out HP.out h1]; exact ⟨h2, h3⟩, fun h => ⟨xs, HP.out, h.1, h.2⟩⟩)
    by_cases hO : OrdP L m o
    · have HO := Lib.hid (show ∀ z : Bool, (z = true ↔ OrdP L m o) → z = true from fun z h => h.2 hO)
      go_wp2_with (first
        | (go_at_call 72; ((with_reducible refine (HOR.out _ hb).mono ?_); rintro r9 w2 ⟨⟨z, rfl, hz⟩, h9⟩; obtain rfl := HO.out z hz; replace hb := hb.trans (h9.mono hb.size); have HLX2 := Lib.hid (HLX.out.same h9); clear h9 HOR))
        | (go_at_call 73; ((with_reducible refine (HHR.out _ xs _ _ _ _ hb HLX2.out hxp).mono ?_); rintro r9 w3 ⟨⟨z, rfl, hz⟩, h9⟩; have HZ := Lib.hid hz; replace hb := hb.trans (h9.mono hb.size); clear h9 HHR hz)))
      go_ret
      refine ⟨ret_b ?_, hb⟩
      apply Bool.eq_iff_iff.2
      rw [HZ.out, HUN.out]
      exact ⟨fun h => ⟨hO, h⟩, fun h => h.2⟩
    · have HO := Lib.hid (show ∀ z : Bool, (z = true ↔ OrdP L m o) → z = false from fun z h => by
        cases z with
        | false => rfl
        | true => exact absurd (h.1 rfl) hO)
      have HX := Lib.hid (show A = false from by
        cases hA : A with
        | false => rfl
        | true => exact absurd (HUN.out.1 hA).1 hO)
      go_wp2_with (first
        | (go_at_call 72; ((with_reducible refine (HOR.out _ hb).mono ?_); rintro r9 w2 ⟨⟨z, rfl, hz⟩, h9⟩; obtain rfl := HO.out z hz; replace hb := hb.trans (h9.mono hb.size); clear h9 HOR)))
      go_ret
      exact ⟨ret_b HX.out.symm, hb⟩
set_option maxHeartbeats 8000000 in
set_option maxRecDepth 20000 in
theorem linCheck_any (F G I : Nat → Prop) (B : List ByteArray) (L : List Ev) (o : List Int) (a b e : Option Addr) (n c m d p q : Nat) (w : World) (hl : SList w F a n c B) (hk : VList w G b m d L) (ho : TList IR w I e p q o) (hn : n ≤ 8796093022208) (hm : m ≤ 100000) (hp : p ≤ 100000) :
    Calls Tryz.prog 12 #[.slice a n c, .slice b m d, .slice e p q] w fun r w' => r = .returned (.int .i64 (linE B L o)) ∧ Below w.heap.size w w' := by
  have hlen := hl.length
  have HCK := Lib.hid (hisCheck_any G L (n : Int) b m d w hk)
  have HNB := Lib.hid (fun W (h : Below w.heap.size w W) => nob_any _ B a n c W (hl.same h))
  have HLK := Lib.hid (fun (hR : Right L) W (h : Below w.heap.size w W) => isLin_any _ _ _ B L o a b e n c m d p q W (hl.same h) (hk.same h) (ho.same h) hn hm hp hR)
  clear hl hk ho
  have hb := Below.refl w.heap.size w
  by_cases hc : checkE (n : Int) L = 0
  · rw [hc] at HCK
    cases hnb : B.any nobB with
    | true =>
      rw [hnb] at HNB
      have HX := Lib.hid (show linE B L o = 2 from by
        have h1 : sizesE B L = 2 := by
          unfold sizesE
          rw [hlen, if_neg (by omega), if_neg]
          intro h9
          obtain ⟨s, hs, hn⟩ := List.any_eq_true.1 hnb
          have := List.all_eq_true.1 h9 s hs
          unfold nobB at hn
          rw [this] at hn; cases hn
        unfold linE
        rw [if_pos (by omega), h1])
      clear hnb hc
      rw [HX.out]
      go_enter Tryz.func12, Tryz.ntmps12
      go_wp2_with (first
        | (go_at_call 36; ((with_reducible refine HCK.out.mono ?_); rintro r9 w1 ⟨rfl, h9⟩; replace hb := hb.trans h9; clear h9 HCK))
        | (go_at_call 37; ((with_reducible refine (HNB.out _ hb).mono ?_); rintro r9 w2 ⟨rfl, h9⟩; replace hb := hb.trans (h9.mono hb.size); clear h9 HNB)))
      go_ret
      exact ⟨rfl, hb⟩
    | false =>
      rw [hnb] at HNB
      have hs := sizes_nob (L := L) (by rw [hlen]; exact hc) hnb
      have HLK2 := Lib.hid (HLK.out (sizes_parts hs).1)
      have HX := Lib.hid (show linE B L o = if linOk B L o then 0 else 17 from by
        unfold linE
        rw [if_neg (by omega)])
      clear hnb hc hs HLK
      rw [HX.out]
      clear HX
      cases hA : linOk B L o with
      | true =>
        rw [hA] at HLK2
        clear hA
        go_enter Tryz.func12, Tryz.ntmps12
        go_wp2_with (first
          | (go_at_call 36; ((with_reducible refine HCK.out.mono ?_); rintro r9 w1 ⟨rfl, h9⟩; replace hb := hb.trans h9; clear h9 HCK))
          | (go_at_call 37; ((with_reducible refine (HNB.out _ hb).mono ?_); rintro r9 w2 ⟨rfl, h9⟩; replace hb := hb.trans (h9.mono hb.size); clear h9 HNB))
          | (go_at_call 39; ((with_reducible refine (HLK2.out _ hb).mono ?_); rintro r9 w3 ⟨rfl, h9⟩; replace hb := hb.trans (h9.mono hb.size); clear h9 HLK2)))
        go_ret
        exact ⟨rfl, hb⟩
      | false =>
        rw [hA] at HLK2
        clear hA
        go_enter Tryz.func12, Tryz.ntmps12
        go_wp2_with (first
          | (go_at_call 36; ((with_reducible refine HCK.out.mono ?_); rintro r9 w1 ⟨rfl, h9⟩; replace hb := hb.trans h9; clear h9 HCK))
          | (go_at_call 37; ((with_reducible refine (HNB.out _ hb).mono ?_); rintro r9 w2 ⟨rfl, h9⟩; replace hb := hb.trans (h9.mono hb.size); clear h9 HNB))
          | (go_at_call 39; ((with_reducible refine (HLK2.out _ hb).mono ?_); rintro r9 w3 ⟨rfl, h9⟩; replace hb := hb.trans (h9.mono hb.size); clear h9 HLK2)))
        go_ret
        exact ⟨rfl, hb⟩
  · have HX := Lib.hid (show linE B L o = checkE (n : Int) L from by
      have h1 : sizesE B L = checkE (n : Int) L := by rw [sizes_err (by rw [hlen]; exact hc), hlen]
      unfold linE
      rw [h1, if_pos hc])
    rw [HX.out]
    clear HX
    generalize checkE (n : Int) L = z at *
    have hzne : (z != 0) = true := by simp [hc]
    go_enter Tryz.func12, Tryz.ntmps12
    go_wp2_with (first
      | (go_at_call 36; ((with_reducible refine HCK.out.mono ?_); rintro r9 w1 ⟨rfl, h9⟩; replace hb := hb.trans h9; clear h9 HCK)))
    go_ret
    exact ⟨rfl, hb⟩
theorem linearOk : LinearOk where
  check := linCheck_any
  block := block_any
  values := values_any
  find := fun F G B L a b n c m d w hl hk _ hm => bigFind_any F G B L a b n c m d w hl hk hm
end Go.Proofs.YtnmhnjjehglcfaaGreat.Ents
