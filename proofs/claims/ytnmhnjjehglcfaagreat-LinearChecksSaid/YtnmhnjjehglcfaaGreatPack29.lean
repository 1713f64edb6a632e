/- Texts that belong together, part 29. -/
import Derived.Test.YtnmhnjjehglcfaaGreatPack28

/- The walks of the document's Put and Single. -/
namespace Go.Proofs.YtnmhnjjehglcfaaGreat.LinMath
open HisMath
def singleB (v : ByteArray) (L : List Ev) : Bool := decide (sizesE [v] L = 0) && decide (restE L 0 = L) && decide ((opsE L L.length).length ≤ 20)
end Go.Proofs.YtnmhnjjehglcfaaGreat.LinMath
namespace Go.Proofs.YtnmhnjjehglcfaaGreat.Ents
open Go.RowKit Plan HisMath LinMath ModMath Rws Env LayMath
set_option maxHeartbeats 8000000 in
set_option maxRecDepth 20000 in
theorem refSingle_any (F : Nat → Prop) (v : ByteArray) (L : List Ev) (a : Option Addr) (n c : Nat) (w : World) (hl : VList w F a n c L) (hm : n ≤ 100000) :
    Calls Tryz.prog 50 #[.string v, .slice a n c] w fun r w' => r = .returned (.bool (singleB v L)) ∧ Below w.heap.size w w' := by
  have hlen := hl.length
  have K := (Env.start w).al (.cells #[.string v] 9)
  have l0 : SList _ (fun b => w.heap.size ≤ b) (some ⟨_, 0, none⟩) 1 1 [v] := lit_list (R := SR) (L := [v]) (K.get 0 rfl) (K.lo 0 rfl) (by unfold maxLen; simp)
  have HSZ := Lib.hid (fun W (h : Below w.heap.size w W) G x (h2 : SList W G x 1 1 [v]) => refSizes_any G _ [v] L x a 1 1 n c W h2 (hl.same h))
  have HRE := Lib.hid (fun W (h : Below w.heap.size w W) => refRestrict_any _ L a n c 0 W (hl.same h) hm)
  have HOP := Lib.hid (fun W (h : Below w.heap.size w W) => refOps_any _ L a n c W (hl.same h) hm)
  have HL := Lib.hid (fun W (h : Below w.heap.size w W) => hl.same h)
  unfold VPost at HRE HOP
  have hon : (opsE L L.length).length = (opsE L n).length := by rw [hlen]
  unfold singleB
  rw [hon]
  clear hl hon
  generalize sizesE [v] L = E at *
  have HSM := Lib.hid (fun W F2 ra rn rc (lr : VList W F2 ra rn rc (restE L 0)) (l2 : VList W (fun b => b < w.heap.size) a n c L) => refVSameB_any F2 _ (restE L 0) L ra a rn rc n c W lr l2)
  generalize hD : decide (restE L 0 = L) = D at *
  clear hD
  generalize restE L 0 = RL at *
  generalize opsE L n = O at *
  by_cases hE : E = 0
  · subst hE
    cases D with
    | true =>
      go_enter Tryz.func50, Tryz.ntmps50
      go_wp2_with (first
        | (go_at_call 40; ((with_reducible refine (HSZ.out _ K.hb _ _ l0).mono ?_); rintro r9 w2 ⟨rfl, h9⟩; replace K := K.on h9; clear h9 l0))
        | (go_at_call 25; ((with_reducible refine (HRE.out _ K.hb).mono ?_); rintro r9 w3 ⟨ra, rn, rc, rfl, lr, h9⟩; replace K := K.on h9; clear h9; replace HSM := HSM.out _ _ _ _ _ lr (HL.out _ K.hb)))
        | (go_at_call 80; ((with_reducible refine (HSM).mono ?_); rintro r9 w4 ⟨rfl, h9⟩; replace K := K.on h9; clear h9 lr HSM))
        | (go_at_call 41; ((with_reducible refine (HOP.out _ K.hb).mono ?_); rintro r9 w5 ⟨oa, on, oc, rfl, lo, h9⟩; replace K := K.on h9; clear h9; obtain rfl := lo.length)))
      go_ret
      exact ⟨ret_b (by simp; omega), K.hb⟩
    | false =>
      go_enter Tryz.func50, Tryz.ntmps50
      go_wp2_with (first
        | (go_at_call 40; ((with_reducible refine (HSZ.out _ K.hb _ _ l0).mono ?_); rintro r9 w2 ⟨rfl, h9⟩; replace K := K.on h9; clear h9 l0))
        | (go_at_call 25; ((with_reducible refine (HRE.out _ K.hb).mono ?_); rintro r9 w3 ⟨ra, rn, rc, rfl, lr, h9⟩; replace K := K.on h9; clear h9; replace HSM := HSM.out _ _ _ _ _ lr (HL.out _ K.hb)))
        | (go_at_call 80; ((with_reducible refine (HSM).mono ?_); rintro r9 w4 ⟨rfl, h9⟩; replace K := K.on h9; clear h9 lr HSM))
        | (go_at_call 41; ((with_reducible refine (HOP.out _ K.hb).mono ?_); rintro r9 w5 ⟨oa, on, oc, rfl, lo, h9⟩; replace K := K.on h9; clear h9; obtain rfl := lo.length)))
      go_ret
      exact ⟨ret_b (by simp), K.hb⟩
  · have d1 : (E == 0) = false := by simpa using hE
    have d2 : (E != 0) = true := by simpa using hE
    have d3 : decide (E = 0) = false := decide_eq_false hE
    rw [d3]
    go_enter Tryz.func50, Tryz.ntmps50
    go_wp2_with (first
      | (go_at_call 40; ((with_reducible refine (HSZ.out _ K.hb _ _ l0).mono ?_); rintro r9 w2 ⟨rfl, h9⟩; replace K := K.on h9; clear h9 l0))
      | (go_at_call 25; ((with_reducible refine (HRE.out _ K.hb).mono ?_); rintro r9 w3 ⟨ra, rn, rc, rfl, lr, h9⟩; replace K := K.on h9; clear h9; replace HSM := HSM.out _ _ _ _ _ lr (HL.out _ K.hb)))
      | (go_at_call 80; ((with_reducible refine (HSM).mono ?_); rintro r9 w4 ⟨rfl, h9⟩; replace K := K.on h9; clear h9 lr HSM))
      | (go_at_call 41; ((with_reducible refine (HOP.out _ K.hb).mono ?_); rintro r9 w5 ⟨oa, on, oc, rfl, lo, h9⟩; replace K := K.on h9; clear h9; obtain rfl := lo.length)))
    go_ret
    exact ⟨ret_b (by simp), K.hb⟩
end Go.Proofs.YtnmhnjjehglcfaaGreat.Ents

/- What Block and Values say, in terms of the search. Plain mathematics. -/
namespace Go.Proofs.YtnmhnjjehglcfaaGreat.LinMath
open HisMath ModMath
theorem sizes_parts {B : List ByteArray} {L : List Ev} (h : sizesE B L = 0) : Right L ∧ L.length ≤ 400 ∧ 1 ≤ B.length ∧ B.length ≤ 128 ∧ ∀ s ∈ B, s.size = 16 := by
  unfold sizesE at h
  split at h
  · rename_i h1; exact absurd h h1
  · rename_i h1
    split at h
    · rename_i h2
      have h3 : checkE (B.length : Int) L = 0 := by omega
      unfold checkE at h3
      split at h3
      · omega
      · split at h3
        · omega
        · split at h3
          · rename_i h4 h5 h6
            refine ⟨(rights_iff L).1 h6, by omega, by omega, by omega, fun s hs => ?_⟩
            have := List.all_eq_true.1 h2 s hs
            simpa using this
          · omega
    · omega
/-- what the block can be at the end of a history of one block -/
def endV (v : ByteArray) (L : List Ev) (u : ByteArray) : Prop := singleB v L = true ∧ Ends L (opsE L L.length) 0 v u
theorem single_parts {v : ByteArray} {L : List Ev} (h : singleB v L = true) : sizesE [v] L = 0 ∧ restE L 0 = L ∧ (opsE L L.length).length ≤ 20 := by
  unfold singleB at h
  simpa [and_assoc] using h
theorem path_lin {v u : ByteArray} {L : List Ev} {l : List Int} {D : Nat} (hs : sizesE [v] L = 0) (h : Path L (opsE L L.length) 0 v l D u) (hg : goalP (opsE L L.length) D) : linE [v] L l = 0 :=
  lin_yes hs (path_must h hg) (path_order (right_opn (sizes_parts hs).1) l h)
theorem lin_parts0 {B : List ByteArray} {L : List Ev} {o : List Int} (h : linE B L o = 0) : sizesE B L = 0 ∧ linOk B L o = true := by
  unfold linE at h
  split at h
  · rename_i h1; exact absurd h h1
  · rename_i h1
    split at h
    · rename_i h2; exact ⟨by omega, h2⟩
    · omega
theorem ends_lin {v : ByteArray} {L : List Ev} (hs : sizesE [v] L = 0) : (∃ u, Ends L (opsE L L.length) 0 v u) ↔ ∃ o, linE [v] L o = 0 := by
  constructor
  · rintro ⟨u, l, D, h, hg⟩
    exact ⟨l, path_lin hs h hg⟩
  · rintro ⟨o, h⟩
    have h2 := (lin_parts0 h).2
    unfold linOk at h2
    rw [Bool.and_eq_true] at h2
    obtain ⟨B', hB⟩ := Option.isSome_iff_exists.1 h2.2
    have hR := (sizes_parts hs).1
    obtain ⟨D, u, _, hp, hg⟩ := order_path hR (right_opn hR) h2.1 hB
    exact ⟨u, o, D, hp, hg⟩
end Go.Proofs.YtnmhnjjehglcfaaGreat.LinMath

/- When a history can be linearized, block by block, as the document's Can asks it. Plain mathematics. -/
namespace Go.Proofs.YtnmhnjjehglcfaaGreat.LinMath
open HisMath ModMath
def smallP (B : List ByteArray) (L : List Ev) : Prop := ∀ i : Nat, i < B.length → (opsE (aloneE L (i : Int)) (aloneE L (i : Int)).length).length ≤ 20
/-- what Can says, and whether Find finds one -/
def CanP (B : List ByteArray) (L : List Ev) : Prop := sizesE B L = 0 ∧ smallP B L ∧ ∃ o, linE B L o = 0
def blkOk (B : List ByteArray) (L : List Ev) (i : Nat) : Prop := ∀ v, B[i]? = some v → ∃ o, linE [v] (aloneE L (i : Int)) o = 0
theorem lin_okE {B : List ByteArray} {L : List Ev} {o : List Int} (hs : sizesE B L = 0) : linE B L o = 0 ↔ linOk B L o = true := by
  constructor
  · intro h; exact (lin_parts0 h).2
  · intro h
    unfold linE
    rw [if_neg (by omega), if_pos h]
theorem alone_right {L : List Ev} (h : Right L) (i : Nat) : Right (aloneE L (i : Int)) := right_blk 0 (right_rest h (i : Int))
theorem alone_len (L : List Ev) (b : Int) : (aloneE L b).length ≤ L.length := by
  unfold aloneE
  rw [List.length_map]
  exact List.length_filter_le _ _
theorem alone_sizes {B : List ByteArray} {L : List Ev} (hs : sizesE B L = 0) {i : Nat} {v : ByteArray} (hv : B[i]? = some v) : sizesE [v] (aloneE L (i : Int)) = 0 := by
  obtain ⟨h1, h2, _, _, h5⟩ := sizes_parts hs
  have hc : checkE (([v] : List ByteArray).length : Int) (aloneE L (i : Int)) = 0 := check_right (alone_right h1 i) (by simp) (by simp) (Nat.le_trans (alone_len _ _) h2)
  refine sizes_good hc fun k s hk hs' => ?_
  obtain rfl : k = 0 := by simpa using hk
  obtain rfl : v = s := by simpa using hs'
  exact h5 v (List.mem_of_getElem? hv)
theorem alone_rest (L : List Ev) (b : Int) : restE (aloneE L b) 0 = aloneE L b := by
  unfold restE
  rw [List.filter_eq_self]
  intro x hx
  unfold aloneE at hx
  obtain ⟨y, hy, rfl⟩ := List.mem_map.1 hx
  have := (List.mem_filter.1 hy).2
  unfold restB at this ⊢
  rw [Bool.and_eq_true] at this ⊢
  exact ⟨by simp [blkEv], this.2⟩
theorem alone_single {B : List ByteArray} {L : List Ev} (hs : sizesE B L = 0) {i : Nat} {v : ByteArray} (hv : B[i]? = some v) (hn : (opsE (aloneE L (i : Int)) (aloneE L (i : Int)).length).length ≤ 20) : singleB v (aloneE L (i : Int)) = true := by
  unfold singleB
  simp only [alone_sizes hs hv, alone_rest, decide_true, Bool.true_and, decide_eq_true_eq]
  exact hn
theorem can_split {B : List ByteArray} {L : List Ev} (hs : sizesE B L = 0) : (∃ o, linE B L o = 0) ↔ (∀ i : Nat, i < B.length → blkOk B L i) ∧ ∀ y ∈ opsE L L.length, mustP y = true → errM B (cmdOf y) = 0 := by
  have hR := (sizes_parts hs).1
  have h1 : (∃ o, linE B L o = 0) ↔ ∃ xs, LinX B L xs := (exists_congr fun o => lin_okE hs).trans (orders_iff hR)
  rw [h1, lin_exists hR]
  refine and_congr ?_ Iff.rfl
  constructor
  · intro h i hi v hv
    obtain ⟨o, ho⟩ := (orders_iff (alone_right hR i)).2 (h i v hv)
    exact ⟨o, (lin_okE (alone_sizes hs hv)).2 ho⟩
  · intro h i v hv
    obtain ⟨o, ho⟩ := h i (List.getElem?_eq_some_iff.1 hv).1 v hv
    exact (orders_iff (alone_right hR i)).1 ⟨o, (lin_okE (alone_sizes hs hv)).1 ho⟩
end Go.Proofs.YtnmhnjjehglcfaaGreat.LinMath

/- The steps that the operations of a history of one block give, and that runs of them are its linearizations. Plain mathematics. -/
namespace Go.Proofs.YtnmhnjjehglcfaaGreat.SrchM
open LinMath HisMath ModMath CmdMath
def err1 (x : Ev) : Int := checkC 1 x.kind x.block x.data.size
def needB (x : Ev) : Bool := if x.ret then decide (x.err = 0) else !decide (x.kind = 1) && decide (err1 x = 0)
def impB (n : Int) (x : Ev) : Bool := x.ret && decide (x.err = 0) && !decide (checkC n x.kind x.block x.data.size = 0)
def valE (x : Ev) : ByteArray := if x.kind = 1 then x.res else (applyB [zeroC] (cmdOf x)).getD 0 ⟨#[]⟩
def toStp (L : List Ev) (x : Ev) : Stp := ⟨x.serial, decide (x.kind = 1), valE x, invI L x.serial, if x.ret then retI L x.serial else nv⟩
def needL (L : List Ev) : List Ev := (opsE L L.length).filter needB
def stepsL (L : List Ev) : List Stp := (needL L).map (toStp L)
/-- a history of one block, nothing of which was answered that cannot be -/
structure One (L : List Ev) : Prop where
  right : Right L
  len : L.length ≤ 400
  rest : restE L 0 = L
  imp : ∀ x ∈ opsE L L.length, impB 1 x = false
section
variable {L : List Ev} {v u : ByteArray}
theorem One.blk (h : One L) : ∀ x ∈ opsE L L.length, x.block = 0 ∧ (x.kind = 1 ∨ x.kind = 2 ∨ x.kind = 3) := fun x hx => by
  have := rest_ops h.right 0 x (by rw [show ((0 : Nat) : Int) = 0 from rfl, h.rest]; exact hx)
  exact this
theorem seek_lt (p : Ev → Bool) (L : List Ev) : seek p L < (L.length : Int) := by
  unfold seek
  cases h : L.findIdx? p with
  | none => simp only; omega
  | some i =>
    obtain ⟨hi, _⟩ := List.findIdx?_eq_some_iff_getElem.1 h
    simp only; omega
theorem op_inv (hR : Right L) {x : Ev} (hx : x ∈ opsE L L.length) : 0 ≤ invI L x.serial ∧ invI L x.serial < (L.length : Int) ∧ (x.ret = true ↔ 0 ≤ retI L x.serial) ∧ (x.ret = true → invI L x.serial < retI L x.serial ∧ retI L x.serial < (L.length : Int)) := by
  obtain ⟨e, he, her, rfl⟩ := (mem_ops hR).1 hx
  have hs := (op_cmd L e).2.2.2.1
  have h0 := (hR.inv_at he her).1
  rw [hs, op_ret her]
  exact ⟨h0, seek_lt _ _, decide_eq_true_iff, fun h => ⟨(hR.inv_before (of_decide_eq_true h)).2, seek_lt _ _⟩⟩
theorem need_op {x : Ev} (hx : x ∈ needL L) : x ∈ opsE L L.length ∧ needB x = true := List.mem_filter.1 hx
theorem step_at {i : Nat} {a : Stp} : (stepsL L)[i]? = some a ↔ ∃ x, (needL L)[i]? = some x ∧ a = toStp L x := by
  unfold stepsL
  rw [List.getElem?_map]
  cases (needL L)[i]? with
  | none => simp
  | some x => simp [eq_comm]
theorem need_nd (hR : Right L) {i j : Nat} {x y : Ev} (hi : (needL L)[i]? = some x) (hj : (needL L)[j]? = some y) (hs : x.serial = y.serial) : i = j := by
  have h := (ops_nd hR).sublist (List.filter_sublist (p := needB))
  rw [List.pairwise_iff_getElem] at h
  obtain ⟨h1, e1⟩ := List.getElem?_eq_some_iff.1 hi
  obtain ⟨h2, e2⟩ := List.getElem?_eq_some_iff.1 hj
  rcases Nat.lt_trichotomy i j with h3 | h3 | h3
  · exact absurd (show (needL L)[i].serial = (needL L)[j].serial by rw [e1, e2]; exact hs) (h i j h1 h2 h3)
  · exact h3
  · exact absurd (show (needL L)[j].serial = (needL L)[i].serial by rw [e1, e2]; exact hs.symm) (h j i h2 h1 h3)
theorem steps_ok (hR : Right L) (hl : L.length ≤ 100000) : SOk (stepsL L) := by
  refine ⟨fun i j a b hij ha hb => ?_, fun a ha => ?_⟩
  · obtain ⟨x, hx, rfl⟩ := step_at.1 ha
    obtain ⟨y, hy, rfl⟩ := step_at.1 hb
    have h := (ops_asc hR).sublist (List.filter_sublist (p := needB))
    rw [List.pairwise_iff_getElem] at h
    obtain ⟨h1, e1⟩ := List.getElem?_eq_some_iff.1 hx
    obtain ⟨h2, e2⟩ := List.getElem?_eq_some_iff.1 hy
    have := h i j h1 h2 hij
    show invI L x.serial < invI L y.serial
    rw [← e1, ← e2]
    exact this
  · obtain ⟨i, hi⟩ := List.mem_iff_getElem?.1 ha
    obtain ⟨x, hx, rfl⟩ := step_at.1 hi
    obtain ⟨h1, h2, h3, h4⟩ := op_inv hR (need_op (List.mem_of_getElem? hx)).1
    show invI L x.serial < (if x.ret then retI L x.serial else nv) ∧ (if x.ret then retI L x.serial else nv) ≤ nv
    unfold nv
    cases hr : x.ret with
    | false => simp only [Bool.false_eq_true, if_false]; omega
    | true =>
      have := h4 hr
      simp only [if_true]; omega
/-- an operation that is needed and answered was answered with OK -/
theorem need_ret {x : Ev} (h : needB x = true) (hr : x.ret = true) : mustP x = true := by
  unfold needB at h
  rw [hr] at h
  unfold mustP
  rw [hr]
  simpa using h
theorem must_need {x : Ev} (h : mustP x = true) : needB x = true ∧ x.ret = true := by
  unfold mustP at h
  rw [Bool.and_eq_true] at h
  unfold needB
  rw [h.1, if_pos rfl]
  exact ⟨h.2, rfl⟩
theorem need_read {x : Ev} (h : needB x = true) (hk : x.kind = 1) : x.ret = true := by
  cases hr : x.ret with
  | true => rfl
  | false => simp [needB, hr, hk] at h
theorem need_err (hO : One L) {x : Ev} (hx : x ∈ needL L) : err1 x = 0 := by
  obtain ⟨h1, h2⟩ := need_op hx
  cases hr : x.ret with
  | false => simp [needB, hr] at h2; exact h2.2
  | true =>
    have h3 := need_ret h2 hr
    have h4 := hO.imp x h1
    unfold impB at h4
    unfold mustP at h3
    rw [h3] at h4
    simpa [err1] using h4
theorem need_apply (hO : One L) {x : Ev} (hx : x ∈ needL L) (v : ByteArray) : applyB [v] (cmdOf x) = [if x.kind = 1 then v else valE x] ∧ (fitR [v] x ↔ (x.kind = 1 → valE x = v)) := by
  have he := need_err hO hx
  obtain ⟨h1, h2⟩ := need_op hx
  obtain ⟨hb, hk⟩ := hO.blk x h1
  have hem : ∀ v : ByteArray, errM [v] (cmdOf x) = 0 := fun v => he
  have hbt : (cmdOf x).block.toNat = 0 := by show x.block.toNat = 0; rw [hb]; rfl
  rcases hk with hk | hk | hk
  · obtain ⟨e1, e2⟩ := apply_read (s := v) (hem v) (show (cmdOf x).kind = 1 from hk) (by rw [hbt]; rfl)
    rw [e1, if_pos hk]
    refine ⟨rfl, ?_⟩
    have hv : valE x = x.res := by unfold valE; rw [if_pos hk]
    have hr := need_read h2 hk
    have hm := need_ret h2 hr
    unfold mustP at hm
    rw [Bool.and_eq_true, decide_eq_true_eq] at hm
    unfold fitR
    rw [e2, hv]
    exact ⟨fun h _ => (h hr).2.symm, fun h _ => ⟨hm.2.symm, (h hk).symm⟩⟩
  · have hk1 : ¬ x.kind = 1 := by omega
    obtain ⟨e1, e2⟩ := apply_write (hem v) (show (cmdOf x).kind = 2 from hk)
    obtain ⟨e3, _⟩ := apply_write (hem zeroC) (show (cmdOf x).kind = 2 from hk)
    have hv : valE x = x.data := by unfold valE; rw [if_neg hk1, e3, hbt]; rfl
    rw [e1, if_neg hk1, hv, hbt]
    refine ⟨rfl, fun _ h => absurd h hk1, fun _ hr => ?_⟩
    have hm := need_ret h2 hr
    unfold mustP at hm
    rw [Bool.and_eq_true, decide_eq_true_eq] at hm
    have h9 := op_fits hO.right h1 hr
    unfold fitsB at h9
    rw [if_pos hm.2, if_neg hk1] at h9
    rw [e2]
    exact ⟨hm.2.symm, (empty_of (of_decide_eq_true h9)).symm⟩
  · have hk1 : ¬ x.kind = 1 := by omega
    obtain ⟨e1, e2⟩ := apply_trim (hem v) (show (cmdOf x).kind = 3 from hk)
    obtain ⟨e3, _⟩ := apply_trim (hem zeroC) (show (cmdOf x).kind = 3 from hk)
    have hv : valE x = zeroC := by unfold valE; rw [if_neg hk1, e3, hbt]; rfl
    rw [e1, if_neg hk1, hv, hbt]
    refine ⟨rfl, fun _ h => absurd h hk1, fun _ hr => ?_⟩
    have hm := need_ret h2 hr
    unfold mustP at hm
    rw [Bool.and_eq_true, decide_eq_true_eq] at hm
    have h9 := op_fits hO.right h1 hr
    unfold fitsB at h9
    rw [if_pos hm.2, if_neg hk1] at h9
    rw [e2]
    exact ⟨hm.2.symm, (empty_of (of_decide_eq_true h9)).symm⟩
/-- what is not needed changes nothing -/
theorem idle_apply (hO : One L) {x : Ev} (hx : x ∈ opsE L L.length) (hn : needB x = false) (hs : skipP x = false) (v : ByteArray) : applyB [v] (cmdOf x) = [v] := by
  have hr : x.ret = false := by
    cases hr : x.ret with
    | false => rfl
    | true =>
      unfold skipP at hs
      unfold needB at hn
      rw [hr] at hs hn
      simp at hs hn
      exact absurd hs hn
  obtain ⟨hb, hk⟩ := hO.blk x hx
  by_cases he : err1 x = 0
  · have hk1 : x.kind = 1 := by
      simp [needB, hr, he] at hn
      exact hn
    exact (apply_read (s := v) (show errM [v] (cmdOf x) = 0 from he) (show (cmdOf x).kind = 1 from hk1) (by show [v][x.block.toNat]? = some v; rw [hb]; rfl)).1
  · exact (apply_bad (B := [v]) (x := cmdOf x) he).1
def opAt (L : List Ev) (i : Nat) : Ev := (needL L).getD i ⟨false, 0, 0, 0, 0, ⟨#[]⟩, 0, ⟨#[]⟩⟩
theorem op_at {i : Nat} {a : Stp} (h : (stepsL L)[i]? = some a) : (needL L)[i]? = some (opAt L i) ∧ a = toStp L (opAt L i) := by
  obtain ⟨x, hx, rfl⟩ := step_at.1 h
  have : opAt L i = x := by unfold opAt; rw [List.getD_eq_getElem?_getD, hx]; rfl
  rw [this]
  exact ⟨hx, rfl⟩
theorem Run.ord {S : List Stp} {D D' : Nat} {l : List Nat} (h : Run S D v l D' u) : l.Pairwise (fun i j => ¬ bf S j i) := by
  induction h with
  | nil => exact .nil
  | @cons D v i a l D' v' ha hd hp hr h ih =>
    refine List.pairwise_cons.2 ⟨fun j hj hb => ?_, ih⟩
    have h1 := (h.new.2 j hj).1
    rw [bit_or, Bool.or_eq_false_iff] at h1
    have := hp j hb
    rw [h1.1] at this; cases this
theorem bf_of (hR : Right L) (hl : L.length ≤ 100000) {i j : Nat} {x y : Ev} (hi : (needL L)[i]? = some x) (hj : (needL L)[j]? = some y) : bf (stepsL L) j i ↔ beforeB L y.serial x.serial = true := by
  obtain ⟨x1, x2, _, _⟩ := op_inv hR (need_op (List.mem_of_getElem? hi)).1
  obtain ⟨y1, y2, y3, y4⟩ := op_inv hR (need_op (List.mem_of_getElem? hj)).1
  unfold beforeB
  simp only [Bool.and_eq_true, decide_eq_true_eq]
  constructor
  · rintro ⟨a, b, ha, hb, hlt⟩
    obtain ⟨x', hx', rfl⟩ := step_at.1 ha
    obtain ⟨y', hy', rfl⟩ := step_at.1 hb
    rw [hi] at hx'
    rw [hj] at hy'
    obtain rfl := Option.some.inj hx'
    obtain rfl := Option.some.inj hy'
    have hlt' : (if y.ret then retI L y.serial else nv) < invI L x.serial := hlt
    cases hr : y.ret with
    | false =>
      rw [hr, if_neg (by decide)] at hlt'
      unfold nv at hlt'
      omega
    | true =>
      rw [hr, if_pos rfl] at hlt'
      exact ⟨⟨y3.1 hr, x1⟩, hlt'⟩
  · rintro ⟨⟨h1, _⟩, h3⟩
    refine ⟨_, _, step_at.2 ⟨x, hi, rfl⟩, step_at.2 ⟨y, hj, rfl⟩, ?_⟩
    show (if y.ret then retI L y.serial else nv) < invI L x.serial
    rw [if_pos (y3.2 h1)]
    exact h3
theorem run_ops (hO : One L) {D D' : Nat} {v u : ByteArray} {l : List Nat} (h : Run (stepsL L) D v l D' u) : runW [v] (l.map (opAt L)) = some [u] := by
  induction h with
  | nil => rfl
  | @cons D v i a l D' v' ha hd hp hr h ih =>
    obtain ⟨h1, rfl⟩ := op_at ha
    obtain ⟨h2, h3⟩ := need_apply hO (List.mem_of_getElem? h1) v
    have hr' : (opAt L i).kind = 1 → valE (opAt L i) = v := fun hk => hr (decide_eq_true hk)
    rw [List.map_cons, runW, if_pos (h3.2 hr'), h2]
    have hv : (if (opAt L i).kind = 1 then v else valE (opAt L i)) = (toStp L (opAt L i)).value := by
      show _ = valE (opAt L i)
      split
      · rename_i hk; exact (hr' hk).symm
      · rfl
    rw [hv]
    exact ih
/-- a run to a goal is a linearization -/
theorem run_lin (hO : One L) {D' : Nat} {l : List Nat} (h : Run (stepsL L) 0 v l D' u) (hg : goal (stepsL L) D') : LinX [v] L (l.map (opAt L)) ∧ runW [v] (l.map (opAt L)) = some [u] := by
  have hl : L.length ≤ 100000 := by have := hO.len; omega
  have hnew := h.new
  have hat : ∀ i ∈ l, (needL L)[i]? = some (opAt L i) := fun i hi => by
    obtain ⟨a, ha⟩ := (hnew.2 i hi).2
    exact (op_at ha).1
  have hmem : ∀ x ∈ l.map (opAt L), x ∈ needL L := fun x hx => by
    obtain ⟨i, hi, rfl⟩ := List.mem_map.1 hx
    exact List.mem_of_getElem? (hat i hi)
  have hrun := run_ops hO h
  refine ⟨⟨fun x hx => (need_op (hmem x hx)).1, ?_, fun x hx => ?_, fun y hy hmu => ?_, ?_, by rw [hrun]; rfl⟩, hrun⟩
  · rw [List.pairwise_map]
    refine List.Pairwise.imp_of_mem (fun {i j} hi hj hij hs => hij ?_) hnew.1
    exact need_nd hO.right (hat i hi) (hat j hj) hs
  · have h2 := (need_op (hmem x hx)).2
    cases hr : x.ret with
    | false => simp [skipP, hr]
    | true =>
      have := need_ret h2 hr
      unfold mustP at this
      unfold skipP
      rw [hr] at this ⊢
      simpa using this
  · obtain ⟨h1, h2⟩ := must_need hmu
    have hy2 : y ∈ needL L := List.mem_filter.2 ⟨hy, h1⟩
    obtain ⟨k, hk⟩ := List.mem_iff_getElem?.1 hy2
    have hb := hg k (toStp L y) (step_at.2 ⟨y, hk, rfl⟩) (.inr (by
      show (if y.ret then retI L y.serial else nv) ≠ nv
      rw [if_pos h2]
      have := ((op_inv hO.right hy).2.2.2 h2).2
      unfold nv
      omega))
    rw [h.bits] at hb
    rcases hb with hb | hb
    · simp at hb
    · have := hat k hb
      rw [hk] at this
      rw [Option.some.inj this]
      exact List.mem_map.2 ⟨k, hb, rfl⟩
  · rw [List.pairwise_map]
    refine List.Pairwise.imp_of_mem (fun {i j} hi hj hij => ?_) h.ord
    rw [bf_of hO.right hl (hat i hi) (hat j hj)] at hij
    simpa using hij
/-- a linearization is a run to a goal -/
theorem lin_run (hO : One L) {xs : List Ev} (h : LinX [v] L xs) (hu : runW [v] xs = some [u]) : ∃ l D', Run (stepsL L) 0 v l D' u ∧ goal (stepsL L) D' := by
  have hl : L.length ≤ 100000 := by have := hO.len; omega
  have key : ∀ (zs ys : List Ev) (D : Nat) (v : ByteArray), ys ++ zs = xs → (∀ k x, (needL L)[k]? = some x → (D.testBit k = true ↔ x ∈ ys)) → runW [v] zs = some [u] → ∃ l D', Run (stepsL L) D v l D' u ∧ ∀ k x, (needL L)[k]? = some x → (D'.testBit k = true ↔ x ∈ xs) := by
    intro zs
    induction zs with
    | nil =>
      intro ys D v hxs hD hr
      rw [List.append_nil] at hxs
      subst hxs
      have : v = u := by
        rw [runW] at hr
        have := Option.some.inj hr
        simpa using this
      subst this
      exact ⟨[], D, .nil _ _, hD⟩
    | cons x zs ih =>
      intro ys D v hxs hD hr
      have hx : x ∈ xs := by rw [← hxs]; simp
      have hxo := h.mem x hx
      have hnd := h.nd
      have hord := h.ord
      rw [← hxs, List.pairwise_append, List.pairwise_cons] at hnd hord
      have hnew : x ∉ ys := fun hm => hnd.2.2 x hm x (by simp) rfl
      rw [runW] at hr
      split at hr
      · rename_i hf
        have hxs' : (ys ++ [x]) ++ zs = xs := by rw [← hxs]; simp
        cases hn : needB x with
        | true =>
          have hxn : x ∈ needL L := List.mem_filter.2 ⟨hxo, hn⟩
          obtain ⟨k, hk⟩ := List.mem_iff_getElem?.1 hxn
          obtain ⟨h2, h3⟩ := need_apply hO hxn v
          have hfit := h3.1 hf
          have hv : (if x.kind = 1 then v else valE x) = valE x := by
            split
            · rename_i hk1; exact (hfit hk1).symm
            · rfl
          rw [h2, hv] at hr
          have hdk : D.testBit k = false := by
            cases hq : D.testBit k with
            | false => rfl
            | true => exact absurd ((hD k x hk).1 hq) hnew
          have hpre : pre (stepsL L) D k := fun j hj => by
            obtain ⟨a, b, ha, hb, hlt⟩ := hj
            obtain ⟨y, hy, rfl⟩ := step_at.1 hb
            have hby := (bf_of hO.right hl hk hy).1 ⟨a, _, ha, hb, hlt⟩
            have hyo := need_op (List.mem_of_getElem? hy)
            have hyr : y.ret = true := by
              simp only [beforeB, Bool.and_eq_true, decide_eq_true_eq] at hby
              exact (op_inv hO.right hyo.1).2.2.1.2 hby.1.1
            have hym := h.must y hyo.1 (need_ret hyo.2 hyr)
            rw [hD j y hy]
            rw [← hxs] at hym
            rcases List.mem_append.1 hym with h9 | h9
            · exact h9
            · rcases List.mem_cons.1 h9 with rfl | h9
              · rw [before_irr hO.right] at hby; cases hby
              · rw [hord.2.1.1 y h9] at hby; cases hby
          have hD2 : ∀ j z, (needL L)[j]? = some z → ((D ||| 2 ^ k).testBit j = true ↔ z ∈ ys ++ [x]) := fun j z hj => by
            rw [bit_or, Bool.or_eq_true, hD j z hj, decide_eq_true_eq, List.mem_append, List.mem_singleton]
            refine or_congr Iff.rfl ⟨fun e => ?_, fun e => ?_⟩
            · subst e
              rw [hk] at hj
              exact (Option.some.inj hj).symm
            · subst e
              exact need_nd hO.right hk hj rfl
          obtain ⟨l, D', h4, h5⟩ := ih (ys ++ [x]) (D ||| 2 ^ k) (valE x) hxs' hD2 hr
          exact ⟨k :: l, D', .cons (step_at.2 ⟨x, hk, rfl⟩) hdk hpre (fun hk1 => hfit (of_decide_eq_true hk1)) h4, h5⟩
        | false =>
          rw [idle_apply hO hxo hn (h.skip x hx)] at hr
          refine ih (ys ++ [x]) D v hxs' (fun j z hj => ?_) hr
          rw [hD j z hj, List.mem_append, List.mem_singleton]
          refine ⟨.inl, fun e => ?_⟩
          rcases e with e | e
          · exact e
          · subst e
            rw [(need_op (List.mem_of_getElem? hj)).2] at hn; cases hn
      · cases hr
  obtain ⟨l, D', h1, h2⟩ := key xs [] 0 v rfl (fun k x _ => by simp) hu
  refine ⟨l, D', h1, fun k a ha hc => ?_⟩
  obtain ⟨y, hy, rfl⟩ := step_at.1 ha
  obtain ⟨h3, h4⟩ := need_op (List.mem_of_getElem? hy)
  have hr : y.ret = true := by
    rcases hc with hc | hc
    · exact need_read h4 (of_decide_eq_true hc)
    · cases hr : y.ret with
      | true => rfl
      | false => exact absurd (show (if y.ret then retI L y.serial else nv) = nv by rw [hr]; rfl) hc
  exact (h2 k y hy).2 (h.must y h3 (need_ret h4 hr))
theorem ends_run (hO : One L) : LinMath.Ends L (opsE L L.length) 0 v u ↔ ∃ l D', Run (stepsL L) 0 v l D' u ∧ goal (stepsL L) D' := by
  have H := right_opn hO.right
  constructor
  · rintro ⟨o, D, hp, hg⟩
    have hb := path_order H o hp
    have hm := path_must hp hg
    have hok : linOk [v] L o = true := by unfold linOk; rw [hm, hb]; rfl
    obtain ⟨xs, rfl, hx⟩ := (lin_iff [v] H o).1 hok
    rw [List.length_map, lin_of [v] H xs hx.mem hx.nd hx.skip hx.ord] at hb
    exact lin_run hO hx hb
  · rintro ⟨l, D', h, hg⟩
    obtain ⟨h1, h2⟩ := run_lin hO h hg
    have hok := (lin_iff [v] H _).2 ⟨_, rfl, h1⟩
    unfold linOk at hok
    rw [Bool.and_eq_true] at hok
    have hb := lin_of [v] H _ h1.mem h1.nd h1.skip h1.ord
    rw [h2] at hb
    obtain ⟨D2, u2, e, hp, hg2⟩ := order_path hO.right H hok.1 (by rw [List.length_map]; exact hb)
    obtain rfl : u = u2 := by simpa using e
    exact ⟨_, D2, hp, hg2⟩
/-- the order of a run to a goal -/
theorem run_linE (hO : One L) (hs : sizesE [v] L = 0) {D' : Nat} {l : List Nat} (h : Run (stepsL L) 0 v l D' u) (hg : goal (stepsL L) D') : linE [v] L (l.map fun i => (opAt L i).serial) = 0 := by
  have := (lin_iff [v] (right_opn hO.right) _).2 ⟨_, rfl, (run_lin hO h hg).1⟩
  rw [List.map_map] at this
  exact (lin_okE hs).2 this
theorem run_exists (hO : One L) (hs : sizesE [v] L = 0) : (∃ o, linE [v] L o = 0) ↔ Compl (stepsL L) 0 v := by
  rw [← ends_lin hs]
  constructor
  · rintro ⟨u, h⟩
    obtain ⟨l, D', h1, h2⟩ := (ends_run hO).1 h
    exact ⟨l, D', u, h1, h2⟩
  · rintro ⟨l, D', u, h1, h2⟩
    exact ⟨u, (ends_run hO).2 ⟨l, D', h1, h2⟩⟩
/-- what cannot be has no linearization -/
theorem imp_none {B : List ByteArray} (hR : Right L) (hs : sizesE B L = 0) {x : Ev} (hx : x ∈ opsE L L.length) (hi : impB (B.length : Int) x = true) : ¬ ∃ o, linE B L o = 0 := by
  rintro ⟨o, h⟩
  obtain ⟨xs, hxs⟩ := (orders_iff hR).1 ⟨o, (lin_okE hs).1 h⟩
  unfold impB at hi
  rw [Bool.and_eq_true] at hi
  have := lin_errs hxs x hx hi.1
  have h2 : checkC (B.length : Int) x.kind x.block x.data.size = 0 := this
  rw [h2] at hi
  simp at hi
/-! a read behind all others -/
def lastS (L : List Ev) (u : ByteArray) : Stp := ⟨0, true, u, (L.length : Int), nv⟩
def stepsV (L : List Ev) (u : ByteArray) : List Stp := stepsL L ++ [lastS L u]
theorem stepsV_at {i : Nat} {a : Stp} : (stepsV L u)[i]? = some a ↔ (stepsL L)[i]? = some a ∨ i = (stepsL L).length ∧ a = lastS L u := by
  unfold stepsV
  rcases Nat.lt_trichotomy i (stepsL L).length with h | h | h
  · rw [List.getElem?_append_left h]
    constructor
    · exact .inl
    · rintro (h1 | ⟨h1, _⟩)
      · exact h1
      · omega
  · subst h
    rw [List.getElem?_append_right (Nat.le_refl _), Nat.sub_self, List.getElem?_eq_none (Nat.le_refl _)]
    simp [eq_comm]
  · rw [List.getElem?_eq_none (by simp; omega), List.getElem?_eq_none (by omega)]
    constructor
    · intro h; cases h
    · rintro (h1 | ⟨h1, _⟩)
      · cases h1
      · omega
theorem step_facts (hR : Right L) {a : Stp} (ha : a ∈ stepsL L) : a.frm < (L.length : Int) ∧ (a.tu ≠ nv → a.tu < (L.length : Int)) ∧ (a.reads = true → a.tu < (L.length : Int)) := by
  obtain ⟨i, hi⟩ := List.mem_iff_getElem?.1 ha
  obtain ⟨x, hx, rfl⟩ := step_at.1 hi
  obtain ⟨h1, h2⟩ := need_op (List.mem_of_getElem? hx)
  obtain ⟨i1, i2, i3, i4⟩ := op_inv hR h1
  refine ⟨i2, fun h => ?_, fun h => ?_⟩
  · have h' : (if x.ret then retI L x.serial else nv) ≠ nv := h
    show (if x.ret then retI L x.serial else nv) < _
    cases hr : x.ret with
    | false => rw [hr] at h'; exact absurd rfl h'
    | true => rw [if_pos rfl]; exact (i4 hr).2
  · have hr := need_read h2 (of_decide_eq_true h)
    show (if x.ret then retI L x.serial else nv) < _
    rw [if_pos hr]; exact (i4 hr).2
theorem stepsV_ok (hR : Right L) (hl : L.length ≤ 100000) : SOk (stepsV L u) := by
  have h := steps_ok hR hl
  refine ⟨fun i j a b hij ha hb => ?_, fun a ha => ?_⟩
  · rcases stepsV_at.1 ha with h1 | ⟨h1, rfl⟩
    · rcases stepsV_at.1 hb with h2 | ⟨h2, rfl⟩
      · exact h.asc i j a b hij h1 h2
      · exact (step_facts hR (List.mem_of_getElem? h1)).1
    · rcases stepsV_at.1 hb with h2 | ⟨h2, rfl⟩
      · have := (List.getElem?_eq_some_iff.1 h2).1; omega
      · omega
  · rcases List.mem_append.1 ha with h1 | h1
    · exact h.le a h1
    · rw [List.mem_singleton.1 h1]
      show (L.length : Int) < nv ∧ nv ≤ nv
      unfold nv; omega
theorem bfV (hR : Right L) (hl : L.length ≤ 100000) {k i : Nat} (hi : i < (stepsL L).length) : bf (stepsV L u) k i ↔ bf (stepsL L) k i := by
  constructor
  · intro h
    have hk := (stepsV_ok hR hl).lt h
    obtain ⟨a, b, ha, hb, hlt⟩ := h
    rcases stepsV_at.1 ha with h1 | ⟨h1, _⟩
    · rcases stepsV_at.1 hb with h2 | ⟨h2, _⟩
      · exact ⟨a, b, h1, h2, hlt⟩
      · omega
    · omega
  · rintro ⟨a, b, ha, hb, hlt⟩
    exact ⟨a, b, stepsV_at.2 (.inl ha), stepsV_at.2 (.inl hb), hlt⟩
theorem runV_of (hR : Right L) (hl : L.length ≤ 100000) {D D' : Nat} {v w : ByteArray} {l : List Nat} (h : Run (stepsL L) D v l D' w) : Run (stepsV L u) D v l D' w := by
  induction h with
  | nil => exact .nil _ _
  | cons ha hd hp hr _ ih =>
    exact .cons (stepsV_at.2 (.inl ha)) hd (fun k hk => hp k ((bfV hR hl (List.getElem?_eq_some_iff.1 ha).1).1 hk)) hr ih
theorem run_ofV (hR : Right L) (hl : L.length ≤ 100000) {D D' : Nat} {v w : ByteArray} {l : List Nat} (h : Run (stepsV L u) D v l D' w) : (∀ i ∈ l, i ≠ (stepsL L).length) → Run (stepsL L) D v l D' w := by
  induction h with
  | nil => exact fun _ => .nil _ _
  | @cons D v i a l D' v' ha hd hp hr _ ih =>
    intro hn
    rcases stepsV_at.1 ha with h1 | ⟨h1, _⟩
    · exact .cons h1 hd (fun k hk => hp k ((bfV hR hl (List.getElem?_eq_some_iff.1 h1).1).2 hk)) hr (ih fun j hj => hn j (List.mem_cons_of_mem _ hj))
    · exact absurd h1 (hn i List.mem_cons_self)
/-- the block can be u at the end exactly if a read behind all others can return u -/
theorem compl_last (hR : Right L) (hl : L.length ≤ 100000) : Compl (stepsV L u) 0 v ↔ ∃ l D', Run (stepsL L) 0 v l D' u ∧ goal (stepsL L) D' := by
  constructor
  · rintro ⟨l, D', w, h, hg⟩
    have hn := hg (stepsL L).length (lastS L u) (stepsV_at.2 (.inr ⟨rfl, rfl⟩)) (.inl rfl)
    rw [h.bits] at hn
    have hn : (stepsL L).length ∈ l := by
      rcases hn with hn | hn
      · simp at hn
      · exact hn
    obtain ⟨l1, l2, rfl⟩ := List.append_of_mem hn
    have hnd := h.new.1
    obtain ⟨D1, v1, h1, h2⟩ := h.split
    cases h2 with
    | @cons _ _ _ a _ _ _ ha hd hp hr _ =>
      obtain rfl : a = lastS L u := by
        rcases stepsV_at.1 ha with h9 | ⟨_, h9⟩
        · have := (List.getElem?_eq_some_iff.1 h9).1; omega
        · exact h9
      have hv := hr rfl
      have hv : u = v1 := hv
      subst hv
      refine ⟨l1, D1, run_ofV hR hl h1 (fun i hi e => ?_), fun k b hb hc => ?_⟩
      · subst e
        rw [List.nodup_append] at hnd
        exact hnd.2.2 _ hi _ (by simp) rfl
      · obtain ⟨_, f2, f3⟩ := step_facts hR (List.mem_of_getElem? hb)
        refine hp k ⟨_, b, ha, stepsV_at.2 (.inl hb), ?_⟩
        show b.tu < (L.length : Int)
        rcases hc with hc | hc
        · exact f3 hc
        · exact f2 hc
  · rintro ⟨l, D', h, hg⟩
    have hb : ∀ i ∈ l, i < (stepsL L).length := fun i hi => by
      obtain ⟨a, ha⟩ := (h.new.2 i hi).2
      exact (List.getElem?_eq_some_iff.1 ha).1
    have hn : D'.testBit (stepsL L).length = false := by
      cases hq : D'.testBit (stepsL L).length with
      | false => rfl
      | true =>
        rw [h.bits] at hq
        rcases hq with hq | hq
        · simp at hq
        · have := hb _ hq; omega
    refine ⟨l ++ [(stepsL L).length], _, _, (runV_of hR hl h).app (Run.one (a := lastS L u) (stepsV_at.2 (.inr ⟨rfl, rfl⟩)) hn (fun k hk => ?_) (fun _ => rfl)), fun k a ha hc => ?_⟩
    · obtain ⟨a, b, ha, hb', hlt⟩ := hk
      obtain rfl : a = lastS L u := by
        rcases stepsV_at.1 ha with h9 | ⟨_, h9⟩
        · have := (List.getElem?_eq_some_iff.1 h9).1; omega
        · exact h9
      have hlt' : b.tu < (L.length : Int) := hlt
      rcases stepsV_at.1 hb' with h9 | ⟨_, rfl⟩
      · exact hg k b h9 (.inr (by unfold nv; omega))
      · have : nv < (L.length : Int) := hlt'
        unfold nv at this; omega
    · rw [bit_or, Bool.or_eq_true, decide_eq_true_eq]
      rcases stepsV_at.1 ha with h9 | ⟨h9, _⟩
      · exact .inl (hg k a h9 hc)
      · exact .inr h9.symm
/-- what the block can be is what it was or what a step writes -/
theorem run_value {S : List Stp} {D D' : Nat} {v w : ByteArray} {l : List Nat} (h : Run S D v l D' w) : w = v ∨ ∃ a ∈ S, a.reads = false ∧ a.value = w := by
  induction h with
  | nil => exact .inl rfl
  | @cons D v i a l D' v' ha hd hp hr _ ih =>
    rcases ih with h1 | h1
    · cases hq : a.reads with
      | true => exact .inl (h1.trans (hr hq))
      | false => exact .inr ⟨a, List.mem_of_getElem? ha, hq, h1.symm⟩
    · exact .inr h1
/-- what the block can be at the end -/
theorem end_iff (hO : One L) (hsg : singleB v L = true) : endV v L u ↔ (u = v ∨ ∃ a ∈ stepsL L, a.reads = false ∧ a.value = u) ∧ Compl (stepsV L u) 0 v := by
  have hl : L.length ≤ 100000 := by have := hO.len; omega
  unfold endV
  rw [compl_last hO.right hl, ends_run hO]
  constructor
  · rintro ⟨_, l, D', h, hg⟩
    exact ⟨run_value h, l, D', h, hg⟩
  · rintro ⟨_, h⟩
    exact ⟨hsg, h⟩
end
end Go.Proofs.YtnmhnjjehglcfaaGreat.SrchM
