/- Texts that belong together, part 24. -/
import Derived.Test.YtnmhnjjehglcfaaGreatPack23

/- The events of a block as events of the block 0, and when a history has a linearization. Plain mathematics. -/
namespace Go.Proofs.YtnmhnjjehglcfaaGreat.LinMath
open HisMath ModMath CmdMath
/-- an event of another block -/
def blkEv (d : Int) (x : Ev) : Ev := { x with block := d }
def aloneE (L : List Ev) (b : Int) : List Ev := (restE L b).map (blkEv 0)
theorem right_blk (d : Int) {L : List Ev} (h : Right L) : Right (L.map (blkEv d)) := by
  induction h with
  | nil => exact .nil
  | @inv L x _ hi ih =>
    rw [List.map_append, List.map_singleton]
    refine .inv ih ⟨hi.ret, hi.q0, hi.q4, hi.s0, fun y hy => ?_, hi.err, hi.res⟩
    obtain ⟨z, hz, rfl⟩ := List.mem_map.1 hy
    exact hi.fresh z hz
  | @ret L x _ hi ih =>
    rw [List.map_append, List.map_singleton]
    obtain ⟨y, hy, h1, h2, h3, h4, h5, h6⟩ := hi.one
    refine .ret ih ⟨hi.ret, hi.q0, hi.q4, hi.s0, ⟨blkEv d y, List.mem_map.2 ⟨y, hy, rfl⟩, h1, h2, h3, h4, rfl, h6⟩, fun z hz hr => ?_, hi.fits⟩
    obtain ⟨w, hw, rfl⟩ := List.mem_map.1 hz
    exact hi.open' w hw hr
theorem seek_map {p : Ev → Bool} (g : Ev → Ev) (hp : ∀ x, p (g x) = p x) (L : List Ev) : seek p (L.map g) = seek p L := by
  unfold seek
  rw [List.findIdx?_map]
  have : p ∘ g = p := funext hp
  rw [this]
theorem ret_blk (d s : Int) (L : List Ev) : retI (L.map (blkEv d)) s = retI L s := seek_map (p := retP s) (blkEv d) (fun _ => rfl) L
theorem inv_blk (d s : Int) (L : List Ev) : invI (L.map (blkEv d)) s = invI L s := seek_map (p := invP s) (blkEv d) (fun _ => rfl) L
theorem before_blk (d s t : Int) (L : List Ev) : beforeB (L.map (blkEv d)) s t = beforeB L s t := by
  unfold beforeB
  rw [ret_blk, inv_blk]
theorem op_blk (d : Int) (L : List Ev) (e : Ev) : opOf (L.map (blkEv d)) (blkEv d e) = blkEv d (opOf L e) := by
  unfold opOf
  rw [ret_blk]
  show (match (if 0 ≤ retI L e.serial then (L.map (blkEv d))[(retI L e.serial).toNat]? else none) with
  | some y => { blkEv d e with ret := true, err := y.err, res := y.res }
  | none => blkEv d e) = _
  rw [List.getElem?_map]
  by_cases h : 0 ≤ retI L e.serial
  · simp only [if_pos h]
    cases L[(retI L e.serial).toNat]? <;> rfl
  · simp only [if_neg h]
theorem ops_blk (d : Int) {L : List Ev} (h : Right L) : opsE (L.map (blkEv d)) (L.map (blkEv d)).length = (opsE L L.length).map (blkEv d) := by
  rw [ops_right (right_blk d h) _ (Nat.le_refl _), ops_right h _ (Nat.le_refl _), List.take_length, List.take_length, List.filter_map, List.map_map, List.map_map]
  have : (fun e : Ev => !e.ret) ∘ blkEv d = fun e => !e.ret := rfl
  rw [this]
  refine List.map_congr_left fun e _ => ?_
  exact op_blk d L e
/-- a run of operations on one block, on another block of the same value -/
theorem run_blk {c d : Nat} : ∀ (xs : List Ev) {C D : List ByteArray}, c < C.length → d < D.length → C[c]? = D[d]? → (∀ x ∈ xs, x.block = (c : Int) ∧ (x.kind = 1 ∨ x.kind = 2 ∨ x.kind = 3)) → (runW C xs).isSome = true → (runW D (xs.map (blkEv (d : Int)))).isSome = true
  | [], _, _, _, _, _, _, _ => rfl
  | x :: xs, C, D, hc, hd, he, hx, h => by
    obtain ⟨hb, hk⟩ := hx x (by simp)
    have h4 : x.kind ≠ 4 := by omega
    have herr : errM C (cmdOf x) = errM D (cmdOf (blkEv (d : Int) x)) := by
      show checkC (C.length : Int) x.kind x.block x.data.size = checkC (D.length : Int) x.kind (d : Int) x.data.size
      rw [hb]
      unfold checkC
      have a1 : ¬ ((x.kind = 4 ∧ (c : Int) ≠ 0) ∨ (x.kind ≠ 4 ∧ ((c : Int) < 0 ∨ (C.length : Int) ≤ (c : Int)))) := by omega
      have a2 : ¬ ((x.kind = 4 ∧ (d : Int) ≠ 0) ∨ (x.kind ≠ 4 ∧ ((d : Int) < 0 ∨ (D.length : Int) ≤ (d : Int)))) := by omega
      rw [if_neg a1, if_neg a2]
    have hap : (applyR C (cmdOf x)).err = (applyR D (cmdOf (blkEv (d : Int) x))).err ∧ (applyR C (cmdOf x)).data = (applyR D (cmdOf (blkEv (d : Int) x))).data ∧ (applyB C (cmdOf x))[c]? = (applyB D (cmdOf (blkEv (d : Int) x)))[d]? := by
      unfold applyR applyB
      rw [← herr]
      by_cases h0 : errM C (cmdOf x) ≠ 0
      · simp only [if_pos h0]
        exact ⟨by first | rfl | trivial, by first | rfl | trivial, he⟩
      · simp only [if_neg h0]
        have hbt : (cmdOf x).block.toNat = c := by show x.block.toNat = c; omega
        have hbd : (cmdOf (blkEv (d : Int) x)).block.toNat = d := by show ((d : Int)).toNat = d; omega
        rw [hbt, hbd]
        show (if x.kind = 1 then (⟨0, C.getD c ⟨#[]⟩⟩ : Res) else ⟨0, ⟨#[]⟩⟩).err = (if x.kind = 1 then (⟨0, D.getD d ⟨#[]⟩⟩ : Res) else ⟨0, ⟨#[]⟩⟩).err ∧ (if x.kind = 1 then (⟨0, C.getD c ⟨#[]⟩⟩ : Res) else ⟨0, ⟨#[]⟩⟩).data = (if x.kind = 1 then (⟨0, D.getD d ⟨#[]⟩⟩ : Res) else ⟨0, ⟨#[]⟩⟩).data ∧ (if x.kind = 2 then C.set c x.data else if x.kind = 3 then C.set c zeroC else C)[c]? = (if x.kind = 2 then D.set d x.data else if x.kind = 3 then D.set d zeroC else D)[d]?
        rw [List.getD_eq_getElem?_getD, List.getD_eq_getElem?_getD, he]
        refine ⟨by split <;> rfl, by split <;> rfl, ?_⟩
        rcases hk with hk | hk | hk
        · have e2 : ¬ x.kind = 2 := by omega
          have e3 : ¬ x.kind = 3 := by omega
          simp only [if_neg e2, if_neg e3]; exact he
        · simp only [if_pos hk, List.getElem?_set_self hc, List.getElem?_set_self hd]
        · have e2 : ¬ x.kind = 2 := by omega
          simp only [if_neg e2, if_pos hk, List.getElem?_set_self hc, List.getElem?_set_self hd]
    rw [runW] at h
    split at h
    · rename_i hf
      have hf2 : fitR D (blkEv (d : Int) x) := fun hr => by
        have := hf hr
        rw [hap.1, hap.2.1] at this
        exact this
      rw [List.map_cons, runW, if_pos hf2]
      exact run_blk xs (by rw [apply_len]; exact hc) (by rw [apply_len]; exact hd) hap.2.2 (fun y hy => hx y (List.mem_cons_of_mem _ hy)) h
    · cases h
/-- a linearization on one block, on another one -/
theorem lin_blk {c d : Nat} {C D : List ByteArray} {A xs : List Ev} (hR : Right A) (hc : c < C.length) (hd : d < D.length) (he : C[c]? = D[d]?) (hA : ∀ x ∈ opsE A A.length, x.block = (c : Int) ∧ (x.kind = 1 ∨ x.kind = 2 ∨ x.kind = 3)) (h : LinX C A xs) : LinX D (A.map (blkEv (d : Int))) (xs.map (blkEv (d : Int))) := by
  refine ⟨fun z hz => ?_, ?_, fun z hz => ?_, fun y hy hmu => ?_, ?_, ?_⟩
  · rw [ops_blk _ hR]
    obtain ⟨x, hx, rfl⟩ := List.mem_map.1 hz
    exact List.mem_map.2 ⟨x, h.mem x hx, rfl⟩
  · rw [List.pairwise_map]; exact h.nd
  · obtain ⟨x, hx, rfl⟩ := List.mem_map.1 hz
    exact h.skip x hx
  · rw [ops_blk _ hR] at hy
    obtain ⟨x, hx, rfl⟩ := List.mem_map.1 hy
    exact List.mem_map.2 ⟨x, h.must x hx hmu, rfl⟩
  · rw [List.pairwise_map]
    refine h.ord.imp fun {t s} hts => ?_
    rw [before_blk]
    exact hts
  · exact run_blk xs hc hd he (fun x hx => hA x (h.mem x hx)) h.run
theorem rest_ops {L : List Ev} (hR : Right L) (b : Nat) : ∀ x ∈ opsE (restE L (b : Int)) (restE L (b : Int)).length, x.block = (b : Int) ∧ (x.kind = 1 ∨ x.kind = 2 ∨ x.kind = 3) := fun x hx => by
  unfold restE at hx
  rw [ops_part hR (rest_byCmd (b : Int))] at hx
  exact rest_kind (List.mem_filter.1 hx).2
theorem alone_iff {L : List Ev} (hR : Right L) {B : List ByteArray} {b : Nat} {v : ByteArray} (hv : B[b]? = some v) : (∃ xs, LinX B (restE L (b : Int)) xs) ↔ ∃ zs, LinX [v] (aloneE L (b : Int)) zs := by
  have hb := (List.getElem?_eq_some_iff.1 hv).1
  have hRr := right_rest hR (b : Int)
  constructor
  · rintro ⟨xs, h⟩
    exact ⟨_, lin_blk (d := 0) hRr hb (by simp) hv (rest_ops hR b) h⟩
  · rintro ⟨zs, h⟩
    have h2 := lin_blk (c := 0) (d := b) (D := B) (right_blk 0 hRr) (by simp) hb (by rw [hv]; rfl) (fun x hx => by
      rw [ops_blk _ hRr] at hx
      obtain ⟨y, hy, rfl⟩ := List.mem_map.1 hx
      exact ⟨rfl, (rest_ops hR b y hy).2⟩) h
    rw [List.map_map] at h2
    have : (restE L (b : Int)).map (blkEv (b : Int) ∘ blkEv 0) = restE L (b : Int) := by
      conv => rhs; rw [← List.map_id (restE L (b : Int))]
      refine List.map_congr_left fun x hx => ?_
      have := (rest_kind (List.mem_filter.1 hx).2).1
      show blkEv (b : Int) (blkEv 0 x) = x
      rw [← this]
      rfl
    rw [this] at h2
    exact ⟨_, h2⟩
/-- what was answered OK is a right command -/
theorem lin_errs {B : List ByteArray} {L xs : List Ev} (h : LinX B L xs) : ∀ y ∈ opsE L L.length, mustP y = true → errM B (cmdOf y) = 0 := by
  have key : ∀ (xs : List Ev) (C : List ByteArray), C.length = B.length → (runW C xs).isSome = true → ∀ y ∈ xs, mustP y = true → errM B (cmdOf y) = 0 := by
    intro xs
    induction xs with
    | nil => intro C _ _ y hy; cases hy
    | cons x xs ih =>
      intro C hC h y hy hmu
      rw [runW] at h
      split at h
      · rename_i hf
        rcases List.mem_cons.1 hy with rfl | hy
        · unfold mustP at hmu
          rw [Bool.and_eq_true, decide_eq_true_eq] at hmu
          have h1 := (hf hmu.1).1
          have h2 : errM C (cmdOf y) = errM B (cmdOf y) := by unfold errM; rw [hC]
          unfold applyR at h1
          rw [h2] at h1
          rcases Decidable.em (errM B (cmdOf y) = 0) with h0 | h0
          · exact h0
          · rw [if_pos h0] at h1
            exact h1.trans hmu.2
        · exact ih _ (by rw [apply_len]; exact hC) h y hy hmu
      · cases h
  exact fun y hy hmu => key xs B rfl h.run y (h.must y hy hmu) hmu
/-- when a history has a linearization -/
theorem lin_exists {B : List ByteArray} {L : List Ev} (hR : Right L) : (∃ xs, LinX B L xs) ↔ (∀ (b : Nat) (v : ByteArray), B[b]? = some v → ∃ zs, LinX [v] (aloneE L (b : Int)) zs) ∧ ∀ y ∈ opsE L L.length, mustP y = true → errM B (cmdOf y) = 0 := by
  constructor
  · rintro ⟨xs, h⟩
    exact ⟨fun b v hv => (alone_iff hR hv).1 ⟨_, local_part hR h b⟩, lin_errs h⟩
  · rintro ⟨h1, h2⟩
    exact local_whole hR h2 fun b hb => (alone_iff hR (List.getElem?_eq_getElem hb)).2 (h1 b _ (List.getElem?_eq_getElem hb))
/-- a history is linearizable exactly if its parts are, where all its commands are right ones -/
theorem lin_parts {B : List ByteArray} {L : List Ev} (hR : Right L) (hz : ∀ y ∈ opsE L L.length, mustP y = true → errM B (cmdOf y) = 0) : (∃ xs, LinX B L xs) ↔ ∀ b : Nat, b < B.length → ∃ xs, LinX B (restE L (b : Int)) xs :=
  ⟨fun ⟨_, h⟩ b _ => ⟨_, local_part hR h b⟩, local_whole hR hz⟩
theorem orders_iff {B : List ByteArray} {L : List Ev} (hR : Right L) : (∃ o, linOk B L o = true) ↔ ∃ xs, LinX B L xs := by
  constructor
  · rintro ⟨o, h⟩
    obtain ⟨xs, _, hx⟩ := (lin_iff B (right_opn hR) o).1 h
    exact ⟨xs, hx⟩
  · rintro ⟨xs, h⟩
    exact ⟨_, (lin_iff B (right_opn hR) _).2 ⟨xs, rfl, h⟩⟩
end Go.Proofs.YtnmhnjjehglcfaaGreat.LinMath

/- Histories in the making: what has happened, and which operations are open. Plain mathematics. -/
namespace Go.Proofs.YtnmhnjjehglcfaaGreat.HisMath
/-- O: what has happened; P: the invocations without a return; s: all numbers are below -/
structure Made (O P : List Ev) (s : Int) : Prop where
  right : Right O
  low : ∀ x ∈ O, x.serial < s
  cmd : ∀ x ∈ O, 1 ≤ x.kind ∧ x.kind ≤ 4 ∧ 0 ≤ x.block ∧ x.block ≤ 2
  calls : ∀ x ∈ P, x ∈ O ∧ x.ret = false
  open' : ∀ x ∈ P, ∀ y ∈ O, y.ret = true → y.serial ≠ x.serial
  apart : P.Pairwise (fun x y => x.serial ≠ y.serial)
theorem Made.start : Made [] [] 0 := ⟨.nil, by simp, by simp, by simp, by simp, .nil⟩
theorem Right.clean {L : List Ev} (h : Right L) : ∀ x ∈ L, x.ret = false → x.err = 0 ∧ x.res.size = 0 := by
  induction h with
  | nil => simp
  | inv hL hx ih =>
    intro y hy hr
    rcases List.mem_append.1 hy with h1 | h1
    · exact ih y h1 hr
    · rw [List.mem_singleton.1 h1]; exact ⟨hx.err, hx.res⟩
  | ret hL hx ih =>
    intro y hy hr
    rcases List.mem_append.1 hy with h1 | h1
    · exact ih y h1 hr
    · rw [List.mem_singleton.1 h1, hx.ret] at hr; cases hr
theorem Right.range {L : List Ev} (h : Right L) : ∀ x ∈ L, 0 ≤ x.queue ∧ x.queue < 4 ∧ 0 ≤ x.serial := by
  induction h with
  | nil => simp
  | inv hL hx ih =>
    intro y hy
    rcases List.mem_append.1 hy with h1 | h1
    · exact ih y h1
    · rw [List.mem_singleton.1 h1]; exact ⟨hx.q0, hx.q4, hx.s0⟩
  | ret hL hx ih =>
    intro y hy
    rcases List.mem_append.1 hy with h1 | h1
    · exact ih y h1
    · rw [List.mem_singleton.1 h1]; exact ⟨hx.q0, hx.q4, hx.s0⟩
/-- an operation is invoked -/
theorem Made.inv {O P : List Ev} {s : Int} (h : Made O P s) {x : Ev} (hr : x.ret = false) (q0 : 0 ≤ x.queue) (q4 : x.queue < 4) (hs : x.serial = s) (h0 : 0 ≤ s) (he : x.err = 0) (hx : x.res.size = 0)
    (hc : 1 ≤ x.kind ∧ x.kind ≤ 4 ∧ 0 ≤ x.block ∧ x.block ≤ 2) : Made (O ++ [x]) (P ++ [x]) (s + 1) := by
  refine ⟨.inv h.right ⟨hr, q0, q4, by omega, fun y hy => by have := h.low y hy; omega, he, hx⟩, fun y hy => ?_, fun y hy => ?_, fun y hy => ?_, fun y hy z hz hzr => ?_, ?_⟩
  · rcases List.mem_append.1 hy with h1 | h1
    · have := h.low y h1; omega
    · rw [List.mem_singleton.1 h1]; omega
  · rcases List.mem_append.1 hy with h1 | h1
    · exact h.cmd y h1
    · rw [List.mem_singleton.1 h1]; exact hc
  · rcases List.mem_append.1 hy with h1 | h1
    · exact ⟨List.mem_append_left _ (h.calls y h1).1, (h.calls y h1).2⟩
    · rw [List.mem_singleton.1 h1]; exact ⟨by simp, hr⟩
  · rcases List.mem_append.1 hz with h2 | h2
    · rcases List.mem_append.1 hy with h1 | h1
      · exact h.open' y h1 z h2 hzr
      · rw [List.mem_singleton.1 h1]; have := h.low z h2; omega
    · rw [List.mem_singleton.1 h2, hr] at hzr; cases hzr
  · rw [List.pairwise_append]
    refine ⟨h.apart, List.pairwise_singleton _ _, fun y hy z hz => ?_⟩
    rw [List.mem_singleton.1 hz]
    have := h.low y (h.calls y hy).1
    omega
/-- an open operation returns -/
theorem Made.ret {O P : List Ev} {s : Int} (h : Made O P s) {k : Nat} {e x : Ev} (he : P[k]? = some e) (hr : x.ret = true) (hq : x.queue = e.queue) (hs : x.serial = e.serial) (hk : x.kind = e.kind) (hb : x.block = e.block) (hd : x.data = e.data)
    (hf : fitsB x.kind x.err x.res.size = true) (t : Int) (ht : s ≤ t) : Made (O ++ [x]) (P.take k ++ P.drop (k + 1)) t := by
  have hm := List.mem_of_getElem? he
  have h1 := h.calls e hm
  have h2 := h.right.range e h1.1
  have hsub : ∀ y ∈ P.take k ++ P.drop (k + 1), y ∈ P := fun y hy => by
    rcases List.mem_append.1 hy with h3 | h3
    · exact List.mem_of_mem_take h3
    · exact List.mem_of_mem_drop h3
  have hpk : P = P.take k ++ e :: P.drop (k + 1) := by
    have hlt := (List.getElem?_eq_some_iff.1 he).1
    have h5 := (List.getElem?_eq_some_iff.1 he).2
    rw [← h5, List.getElem_cons_drop, List.take_append_drop]
  have hne : ∀ y ∈ P.take k ++ P.drop (k + 1), y.serial ≠ e.serial := fun y hy => by
    have hp := h.apart
    rw [hpk, List.pairwise_append, List.pairwise_cons] at hp
    rcases List.mem_append.1 hy with h3 | h3
    · exact hp.2.2 y h3 e List.mem_cons_self
    · exact fun h9 => hp.2.1.1 y h3 h9.symm
  refine ⟨.ret h.right ⟨hr, by omega, by omega, by omega, ⟨e, h1.1, h1.2, hs.symm, hq.symm, hk.symm, hb.symm, hd.symm⟩, fun y hy hyr => ?_, hf⟩, fun y hy => ?_, fun y hy => ?_, fun y hy => ?_, fun y hy z hz hzr => ?_, ?_⟩
  · rw [hs]; exact h.open' e hm y hy hyr
  · rcases List.mem_append.1 hy with h3 | h3
    · have := h.low y h3; omega
    · rw [List.mem_singleton.1 h3, hs]; have := h.low e h1.1; omega
  · rcases List.mem_append.1 hy with h3 | h3
    · exact h.cmd y h3
    · rw [List.mem_singleton.1 h3, hk, hb]; exact h.cmd e h1.1
  · exact ⟨List.mem_append_left _ (h.calls y (hsub y hy)).1, (h.calls y (hsub y hy)).2⟩
  · rcases List.mem_append.1 hz with h3 | h3
    · exact h.open' y (hsub y hy) z h3 hzr
    · rw [List.mem_singleton.1 h3, hs]; exact fun h9 => hne y hy h9.symm
  · have hp := h.apart
    rw [hpk, List.pairwise_append, List.pairwise_cons] at hp
    rw [List.pairwise_append]
    exact ⟨hp.1, hp.2.1.2, fun y hy z hz => hp.2.2 y hy z (List.mem_cons_of_mem _ hz)⟩
end Go.Proofs.YtnmhnjjehglcfaaGreat.HisMath

/- What the program's history keeps in its maps, and that it comes to the document's answers. Plain mathematics. -/
namespace Go.Proofs.YtnmhnjjehglcfaaGreat.HisMath
theorem take_snoc {α : Type} {L : List α} {j : Nat} {e : α} (h : L[j]? = some e) : L.take (j + 1) = L.take j ++ [e] := by
  rw [List.take_succ_eq_append_getElem (List.getElem?_eq_some_iff.1 h).1, (List.getElem?_eq_some_iff.1 h).2]
/-- the first invocations of the beginning -/
def callsE (L : List Ev) : Nat → List Ev
  | 0 => []
  | m + 1 => match L[m]? with
    | some e => if opsB L m e then callsE L m ++ [e] else callsE L m
    | none => callsE L m
theorem calls_next {L : List Ev} {j : Nat} {e : Ev} (h : L[j]? = some e) : (opsB L j e = true → callsE L (j + 1) = callsE L j ++ [e]) ∧ (opsB L j e = false → callsE L (j + 1) = callsE L j) :=
  ⟨fun hp => by simp [callsE, h, hp], fun hp => by simp [callsE, h, hp]⟩
theorem calls_map (L : List Ev) : ∀ n, (callsE L n).map (opOf L) = opsE L n
  | 0 => rfl
  | n + 1 => by
    have ih := calls_map L n
    cases h : L[n]? with
    | none => simp [callsE, opsE, h, ih]
    | some e =>
      cases hp : opsB L n e
      · simp [callsE, opsE, h, hp, ih]
      · simp [callsE, opsE, h, hp, ih]
theorem calls_len (L : List Ev) : ∀ n, (callsE L n).length ≤ n
  | 0 => Nat.le_refl _
  | n + 1 => by
    have ih := calls_len L n
    cases h : L[n]? with
    | none => simp [callsE, h]; omega
    | some e => cases hp : opsB L n e <;> simp [callsE, h, hp] <;> omega
theorem calls_inv (L : List Ev) : ∀ n, ∀ e ∈ callsE L n, e.ret = false
  | 0 => by simp [callsE]
  | n + 1 => by
    have ih := calls_inv L n
    cases h : L[n]? with
    | none => simpa [callsE, h] using ih
    | some e =>
      cases hp : opsB L n e
      · simpa [callsE, h, hp] using ih
      · intro x hx
        simp only [callsE, h, hp, if_true, List.mem_append, List.mem_singleton] at hx
        rcases hx with hx | rfl
        · exact ih x hx
        · cases hr : x.ret
          · rfl
          · simp [opsB, hr] at hp
/-- the Serials of invocations that have come -/
def SeenI (L : List Ev) (j : Nat) (Sn : List Int) : Prop := ∀ z, z ∈ Sn ↔ ¬ invI (L.take j) z < 0
theorem seen_start (L : List Ev) : SeenI L 0 [] := fun z => by simp [invI, seek]
theorem seen_ask {L : List Ev} {j : Nat} {Sn : List Int} (h : SeenI L j Sn) (z : Int) : decide (z ∈ Sn) = !decide (invI (L.take j) z < 0) := by
  by_cases h1 : invI (L.take j) z < 0
  · have : ¬ z ∈ Sn := fun h2 => (h z).1 h2 h1
    simp [this, h1]
  · have : z ∈ Sn := (h z).2 h1
    simp [this, h1]
theorem inv_snoc {L : List Ev} {x : Ev} {z : Int} : invI (L ++ [x]) z < 0 ↔ invI L z < 0 ∧ ¬ (x.ret = false ∧ x.serial = z) := by
  rw [inv_neg, inv_neg]
  constructor
  · intro h
    refine ⟨fun y hy => h y (List.mem_append_left _ hy), fun ⟨h1, h2⟩ => h x (by simp) h1 h2⟩
  · rintro ⟨h1, h2⟩ y hy hr hs
    rcases List.mem_append.1 hy with hy | hy
    · exact h1 y hy hr hs
    · obtain rfl := List.mem_singleton.1 hy
      exact h2 ⟨hr, hs⟩
theorem seen_same {L : List Ev} {j : Nat} {Sn : List Int} {e : Ev} (h : SeenI L j Sn) (he : L[j]? = some e) (hp : opsB L j e = false) : SeenI L (j + 1) Sn := fun z => by
  rw [h z, take_snoc he, inv_snoc]
  constructor
  · exact fun h1 h2 => h1 h2.1
  · rintro h1 h2
    refine h1 ⟨h2, fun ⟨h3, h4⟩ => ?_⟩
    subst h4
    simp [opsB, h3, h2] at hp
theorem seen_more {L : List Ev} {j : Nat} {Sn : List Int} {e : Ev} (h : SeenI L j Sn) (he : L[j]? = some e) (hp : opsB L j e = true) : SeenI L (j + 1) (e.serial :: Sn) := fun z => by
  have hr : e.ret = false := by cases hr : e.ret <;> simp_all [opsB]
  rw [List.mem_cons, h z, take_snoc he, inv_snoc]
  constructor
  · rintro (rfl | h1)
    · exact fun h2 => h2.2 ⟨hr, rfl⟩
    · exact fun h2 => h1 h2.1
  · intro h1
    by_cases h2 : invI (L.take j) z < 0
    · left
      rcases Classical.em (e.serial = z) with h3 | h3
      · exact h3.symm
      · exact absurd ⟨h2, fun h4 => h3 h4.2⟩ h1
    · exact .inr h2
/-- the first return of a Serial in the beginning -/
def retE (L : List Ev) (j : Nat) (z : Int) : Option Ev := (L.take j).find? (retP z)
theorem ret_start (L : List Ev) (z : Int) : retE L 0 z = none := by simp [retE]
theorem ret_next {L : List Ev} {j : Nat} {e : Ev} (he : L[j]? = some e) (z : Int) : retE L (j + 1) z = if e.ret = true ∧ e.serial = z ∧ retE L j z = none then some e else retE L j z := by
  unfold retE
  rw [take_snoc he, List.find?_append]
  cases h : (L.take j).find? (retP z) with
  | some y => simp
  | none =>
    by_cases h1 : e.ret = true ∧ e.serial = z
    · simp [retP, h1]
    · rw [if_neg (fun h2 => h1 ⟨h2.1, h2.2.1⟩)]
      have : retP z e = false := by
        cases hr : e.ret
        · simp [retP, hr]
        · have : e.serial ≠ z := fun h2 => h1 ⟨hr, h2⟩
          simp [retP, this]
      simp [this]
theorem op_found {L : List Ev} (e : Ev) : opOf L e = match retE L L.length e.serial with
    | some y => { e with ret := true, err := y.err, res := y.res }
    | none => e := by
  unfold opOf retE
  rw [List.take_length]
  by_cases h : 0 ≤ retI L e.serial
  · obtain ⟨i, y, hi, hy, hp, hq⟩ := seek_is h
    rw [if_pos h, show retI L e.serial = (i : Int) from hi, Int.toNat_natCast, hy]
    have : L.find? (retP e.serial) = some y := by
      rw [List.find?_eq_some_iff_getElem]
      obtain ⟨h1, h2⟩ := List.getElem?_eq_some_iff.1 hy
      exact ⟨hp, i, h1, h2, fun j hj => by have := hq j _ hj (List.getElem?_eq_getElem (by omega)); simp [this]⟩
    rw [this]
  · rw [if_neg h]
    have : L.find? (retP e.serial) = none := by
      rw [List.find?_eq_none]
      intro x hx
      have := seek_neg.1 (show seek (retP e.serial) L < 0 from by unfold retI at h; omega) x hx
      simp [this]
    rw [this]
/-- the last event of a Serial in the beginning -/
def lastE (L : List Ev) : Nat → Int → Option Ev
  | 0, _ => none
  | m + 1, z => match L[m]? with
    | some e => if e.serial = z then some e else lastE L m z
    | none => lastE L m z
theorem last_next {L : List Ev} {j : Nat} {e : Ev} (he : L[j]? = some e) : lastE L (j + 1) = fun z => if e.serial = z then some e else lastE L j z := by
  funext z
  simp [lastE, he]
theorem last_none {L : List Ev} {z : Int} : ∀ {j : Nat}, lastE L j z = none → ∀ y ∈ L.take j, y.serial ≠ z
  | 0, _ => by simp
  | j + 1, h => by
    cases he : L[j]? with
    | none =>
      rw [List.take_of_length_le (by rw [List.getElem?_eq_none_iff] at he; omega)]
      have h1 : lastE L j z = none := by simpa [lastE, he] using h
      have := last_none h1
      rw [List.take_of_length_le (by rw [List.getElem?_eq_none_iff] at he; omega)] at this
      exact this
    | some e =>
      have hz : ¬ e.serial = z := fun h1 => by simp [lastE, he, h1] at h
      have h1 : lastE L j z = none := by simpa [lastE, he, hz] using h
      rw [take_snoc he]
      intro y hy
      rcases List.mem_append.1 hy with hy | hy
      · exact last_none h1 y hy
      · obtain rfl := List.mem_singleton.1 hy
        exact hz
theorem last_some {L : List Ev} {z : Int} {y : Ev} : ∀ {j : Nat}, lastE L j z = some y → ∃ p, p < j ∧ L[p]? = some y ∧ y.serial = z ∧ ∀ (q : Nat) (x : Ev), p < q → q < j → L[q]? = some x → x.serial ≠ z
  | 0, h => by simp [lastE] at h
  | j + 1, h => by
    cases he : L[j]? with
    | none =>
      have h1 : lastE L j z = some y := by simpa [lastE, he] using h
      obtain ⟨p, h2, h3, h4, h5⟩ := last_some h1
      refine ⟨p, by omega, h3, h4, fun q x hp hq hx => ?_⟩
      by_cases hqj : q = j
      · subst hqj; rw [he] at hx; cases hx
      · exact h5 q x hp (by omega) hx
    | some e =>
      by_cases hz : e.serial = z
      · have h1 : e = y := by simpa [lastE, he, hz] using h
        subst h1
        exact ⟨j, by omega, he, hz, fun q x hp hq => by omega⟩
      · have h1 : lastE L j z = some y := by simpa [lastE, he, hz] using h
        obtain ⟨p, h2, h3, h4, h5⟩ := last_some h1
        refine ⟨p, by omega, h3, h4, fun q x hp hq hx => ?_⟩
        by_cases hqj : q = j
        · subst hqj; rw [he] at hx; obtain rfl := Option.some.inj hx; exact hz
        · exact h5 q x hp (by omega) hx
/-- whether an event is possible, whatever is before it -/
def possB (x : Ev) : Bool := if x.queue < 0 ∨ 4 ≤ x.queue ∨ x.serial < 0 then false else if x.ret then fitsB x.kind x.err x.res.size else decide (x.err = 0) && decide (x.res.size = 0)
def callOf (x : Ev) : Ev := { x with ret := false, err := 0, res := ⟨#[]⟩ }
def stepB (l : Option Ev) (x : Ev) : Bool := possB x && (l.isSome == x.ret) && (!x.ret || decide (l = some (callOf x)))
theorem size_zero {b : ByteArray} (h : b.size = 0) : b = ⟨#[]⟩ := by
  obtain ⟨d⟩ := b
  have : d.size = 0 := h
  rw [Array.size_eq_zero_iff] at this
  subst this
  rfl
theorem step_right {L : List Ev} {j : Nat} {x : Ev} (h : Right (L.take j)) (hx : L[j]? = some x) : stepB (lastE L j x.serial) x = rightB (L.take j) x := by
  have hlt := (List.getElem?_eq_some_iff.1 hx).1
  have hmem : ∀ (p : Nat) (y : Ev), p < j → L[p]? = some y → (L.take j)[p]? = some y := fun p y hp hy => by rw [List.getElem?_take_of_lt hp]; exact hy
  have hiff : stepB (lastE L j x.serial) x = true ↔ rightB (L.take j) x = true := by
    rw [right_step h]
    cases hr : x.ret
    · constructor
      · intro hs
        simp only [stepB, hr, Bool.not_false, Bool.true_or, Bool.and_true, Bool.and_eq_true] at hs
        obtain ⟨h1, h2⟩ := hs
        left
        have hn : lastE L j x.serial = none := by
          cases hl : lastE L j x.serial
          · rfl
          · rw [hl] at h2; simp at h2
        unfold possB at h1
        split at h1
        · cases h1
        · next hq =>
          rw [hr] at h1
          simp only [Bool.false_eq_true, if_false, Bool.and_eq_true, decide_eq_true_eq] at h1
          exact ⟨hr, by omega, by omega, by omega, last_none hn, h1.1, h1.2⟩
      · rintro (hi | hi)
        · have hn : lastE L j x.serial = none := by
            cases hl : lastE L j x.serial with
            | none => rfl
            | some y =>
              obtain ⟨p, h2, h3, h4, _⟩ := last_some hl
              exact absurd h4 (hi.fresh y (List.mem_of_getElem? (hmem p y h2 h3)))
          have hq : ¬ (x.queue < 0 ∨ 4 ≤ x.queue ∨ x.serial < 0) := by have := hi.q0; have := hi.q4; have := hi.s0; omega
          simp [stepB, possB, hq, hr, hn, hi.err, hi.res]
        · rw [hi.ret] at hr; cases hr
    · constructor
      · intro hs
        simp only [stepB, hr, Bool.not_true, Bool.false_or, Bool.and_eq_true, decide_eq_true_eq] at hs
        obtain ⟨⟨h1, _⟩, h2⟩ := hs
        right
        obtain ⟨p, hp, hy, h4, h5⟩ := last_some h2
        unfold possB at h1
        split at h1
        · cases h1
        · next hq =>
          refine ⟨hr, by omega, by omega, by omega, ⟨callOf x, List.mem_of_getElem? (hmem p _ hp hy), rfl, rfl, rfl, rfl, rfl, rfl⟩, ?_, h1⟩
          intro y hy' hyr hys
          obtain ⟨q, hq'⟩ := List.mem_iff_getElem?.1 hy'
          obtain ⟨p', c, hp', hc, hcr, hcs⟩ := h.ahead q y hq' hyr
          have hqj : q < j := by
            have := (List.getElem?_eq_some_iff.1 hq').1
            rw [List.length_take] at this
            omega
          have := h.one p' p c (callOf x) hc (hmem p _ hp hy) hcr rfl (by rw [hcs, hys]; rfl)
          subst this
          have hLq : L[q]? = some y := by rw [List.getElem?_take_of_lt hqj] at hq'; exact hq'
          exact h5 q y (by omega) hqj hLq hys
      · rintro (hi | hi)
        · rw [hi.ret] at hr; cases hr
        · have hq : ¬ (x.queue < 0 ∨ 4 ≤ x.queue ∨ x.serial < 0) := by have := hi.q0; have := hi.q4; have := hi.s0; omega
          obtain ⟨y, hy, yr, ys, yq, yk, yb, yd⟩ := hi.one
          obtain ⟨q, hq'⟩ := List.mem_iff_getElem?.1 hy
          have hqj : q < j := by
            have := (List.getElem?_eq_some_iff.1 hq').1
            rw [List.length_take] at this
            omega
          have hl : lastE L j x.serial = some (callOf x) := by
            cases hl : lastE L j x.serial with
            | none => exact absurd ys (last_none hl y hy)
            | some z =>
              obtain ⟨p, hp, hz, hzs, hafter⟩ := last_some hl
              have hzm := hmem p z hp hz
              have hzr : z.ret = false := by
                cases hzr : z.ret
                · rfl
                · exact absurd hzs (hi.open' z (List.mem_of_getElem? hzm) hzr)
              have hpq := h.one p q z y hzm hq' hzr yr (hzs.trans ys.symm)
              subst hpq
              rw [hzm] at hq'
              obtain rfl := Option.some.inj hq'
              have hcl := h.clean z hy hzr
              have hres := size_zero hcl.2
              congr 1
              obtain ⟨zr, zq, zs, zk, zb, zd, ze, zx⟩ := z
              simp only at yr ys yq yk yb yd hcl hres
              simp only [callOf]
              rw [yr, ys, yq, yk, yb, yd, hcl.1, hres]
          simp [stepB, possB, hq, hr, hl, hi.fits]
  cases h1 : stepB (lastE L j x.serial) x <;> cases h2 : rightB (L.take j) x <;> simp_all
theorem right_start (L : List Ev) : Right (L.take 0) := by rw [List.take_zero]; exact .nil
theorem right_more {L : List Ev} {j : Nat} {x : Ev} (h : Right (L.take j)) (hx : L[j]? = some x) (hr : rightB (L.take j) x = true) : Right (L.take (j + 1)) := by
  rw [take_snoc hx]
  rcases (right_step h x).1 hr with h1 | h1
  · exact .inv h h1
  · exact .ret h h1
theorem right_less {L : List Ev} {j : Nat} {x : Ev} (hx : L[j]? = some x) (hr : rightB (L.take j) x = false) : rightsB L = false :=
  rights_bad (List.getElem?_eq_some_iff.1 hx).1 (by simp [rightAt, hx, hr])
theorem right_all {L : List Ev} {j : Nat} (h : Right (L.take j)) (hj : j = L.length) : rightsB L = true := by
  subst hj
  rw [List.take_length] at h
  exact (rights_iff L).2 h
end Go.Proofs.YtnmhnjjehglcfaaGreat.HisMath

/- The walks of the program's small functions of histories: names, dataBytes, fits, call, isPossible, the closure of place. -/
namespace Go.Proofs.YtnmhnjjehglcfaaGreat.Ents
open Go.RowKit Plan HisMath Rws Env LayMath CmdMath
set_option maxHeartbeats 4000000 in
set_option maxRecDepth 20000 in
theorem hisNames_any (k b c : Int) (s : ByteArray) (w : World) :
    Calls Tryz.prog 103 #[cmdV k b s, .int .i64 c] w fun r w' => r = .returned (.bool (decide (b = c) && (decide (k = 1) || decide (k = 2) || decide (k = 3)))) ∧ Below w.heap.size w w' := by
  have K := (Env.start w).al (cmdRow k b s)
  obtain ⟨q, d2⟩ : ∃ q, (b == c) = q := ⟨_, rfl⟩
  rw [show decide (b = c) = q from d2]
  have hc : k = 1 ∨ k = 2 ∨ k = 3 ∨ (k ≠ 1 ∧ k ≠ 2 ∧ k ≠ 3) := by omega
  rcases hc with rfl | rfl | rfl | ⟨h1, h2, h3⟩
  · skip
    go_enter Tryz.func103, Tryz.ntmps103
    obtain ⟨c0, c1, c2⟩ := cmd_cells (K.get 0 rfl)
    go_wp2_with fail
    go_ret
    exact ⟨by simp, K.hb⟩
  · skip
    go_enter Tryz.func103, Tryz.ntmps103
    obtain ⟨c0, c1, c2⟩ := cmd_cells (K.get 0 rfl)
    go_wp2_with fail
    go_ret
    exact ⟨by simp, K.hb⟩
  · skip
    go_enter Tryz.func103, Tryz.ntmps103
    obtain ⟨c0, c1, c2⟩ := cmd_cells (K.get 0 rfl)
    go_wp2_with fail
    go_ret
    exact ⟨by simp, K.hb⟩
  · have e1 : (k == 1) = false := by simpa using h1
    have e2 : (k == 2) = false := by simpa using h2
    have e3 : (k == 3) = false := by simpa using h3
    have e4 : (q && (decide (k = 1) || decide (k = 2) || decide (k = 3))) = false := by simp [h1, h2, h3]
    rw [e4]
    clear e4
    go_enter Tryz.func103, Tryz.ntmps103
    obtain ⟨c0, c1, c2⟩ := cmd_cells (K.get 0 rfl)
    go_wp2_with fail
    go_ret
    exact ⟨rfl, K.hb⟩
set_option maxHeartbeats 4000000 in
set_option maxRecDepth 20000 in
theorem hisBytes_any (k b : Int) (s : ByteArray) (w : World) :
    Calls Tryz.prog 148 #[cmdV k b s] w fun r w' => r = .returned (.int .i64 (if k = 1 then 16 else 0)) ∧ Below w.heap.size w w' := by
  have K := (Env.start w).al (cmdRow k b s)
  by_cases h1 : k = 1
  · subst h1
    rw [if_pos rfl]
    go_enter Tryz.func148, Tryz.ntmps148
    obtain ⟨c0, c1, c2⟩ := cmd_cells (K.get 0 rfl)
    go_wp2_with fail
    go_ret
    exact ⟨rfl, K.hb⟩
  · rw [if_neg h1]
    have e1 : (k == 1) = false := by simpa using h1
    go_enter Tryz.func148, Tryz.ntmps148
    obtain ⟨c0, c1, c2⟩ := cmd_cells (K.get 0 rfl)
    go_wp2_with fail
    go_ret
    exact ⟨rfl, K.hb⟩
set_option maxHeartbeats 8000000 in
set_option maxRecDepth 20000 in
theorem hisFits_any (k b e : Int) (s x : ByteArray) (w : World) :
    Calls Tryz.prog 127 #[cmdV k b s, .agg #[.int .i64 e, .string x]] w fun r w' => r = .returned (.bool (fitsB k e x.size)) ∧ Below w.heap.size w w' := by
  have K := ((Env.start w).al (cmdRow k b s)).al (.cells #[.int .i64 e, .string x] 53)
  simp only [World.size_alloc] at K
  have HB := Lib.hid (fun W => hisBytes_any k b s W)
  have hcases : e = 0 ∨ e = 7 ∨ e = 1 ∨ e = 2 ∨ e = 3 ∨ e = 12 ∨ (e ≠ 0 ∧ e ≠ 7 ∧ e ≠ 1 ∧ e ≠ 2 ∧ e ≠ 3 ∧ e ≠ 12) := by omega
  rcases hcases with rfl | rfl | rfl | rfl | rfl | rfl | ⟨h0, h7, h1, h2, h3, h12⟩
  · have hf : fitsB k 0 x.size = ((x.size : Int) == (if k = 1 then 16 else 0)) := by
      unfold fitsB
      rw [if_pos rfl]
      by_cases h1 : k = 1
      · rw [if_pos h1, if_pos h1]
        by_cases h2 : x.size = 16
        · simp [h2]
        · rw [decide_eq_false h2]; symm; simp; omega
      · rw [if_neg h1, if_neg h1]
        by_cases h2 : x.size = 0
        · simp [h2]
        · rw [decide_eq_false h2]; symm; rw [beq_eq_false_iff_ne]; omega
    rw [hf]
    clear hf
    generalize (if k = 1 then (16 : Int) else 0) = y at *
    obtain ⟨q, hq⟩ : ∃ q, ((x.size : Int) == y) = q := ⟨_, rfl⟩
    rw [hq]
    go_enter Tryz.func127, Tryz.ntmps127
    obtain ⟨q0, q1⟩ := hs_cells2 (K.get 0 rfl)
    go_upto_region 3 with fail
    refine Plan.start (fun W => W.cell? ⟨w.heap.size + 1, 1, none⟩ = some (.string x) ∧ W.heap[w.heap.size]? = some (cmdRow k b s)) [(0, true), (1, true), (2, true), (3, true), (4, false), (5, true), (6, true)] (by kernel_rfl) (by kernel_rfl) (by kernel_rfl) (by kernel_rfl) ⟨(hs_cells2 (K.drew.get 0 rfl)).2, K.drew.get 1 rfl⟩ ?_
    simp only [List.map_cons, List.map_nil, List.getElem?_toArray, List.getElem?_cons_zero, List.getElem?_cons_succ]
    replace K := K.drew
    clear q0 q1
    repeat (first | (refine Plan.take ?_ (by rfl) ?_ ?_; rotate_left; (· rintro w9 ⟨u0, u1⟩; go_simp; (try rw [if_neg (by omega)]); all_goals (with_reducible rfl)); simp only [Act.put, List.setIfInBounds_toArray, List.set_cons_zero, List.set_cons_succ]) | (refine Plan.pass (by rfl) ?_; simp only [Act.put, List.setIfInBounds_toArray, List.set_cons_zero, List.set_cons_succ]))
    refine Plan.take_load 51 (.tmp 2) w.heap.size _ (by rfl) rfl (by rfl) (fun w9 h9 => h9.2) Tryz.underlying51 rfl cmd_info ?_
    simp only [Act.put, List.setIfInBounds_toArray, List.set_cons_zero, List.set_cons_succ]
    refine Plan.call (by rfl) 148 _ ?_ (HB.out _) ?_
    · go_simp
    rintro r9 w2 ⟨rfl, h9⟩
    replace K := K.on h9
    clear h9
    refine ⟨_, rfl, ⟨(hs_cells2 (K.get 0 rfl)).2, K.get 1 rfl⟩, ?_⟩
    simp only [Act.put, List.setIfInBounds_toArray, List.set_cons_zero, List.set_cons_succ]
    repeat (first | (refine Plan.take ?_ (by rfl) ?_ ?_; rotate_left; (· rintro w9 ⟨u0, u1⟩; go_simp; (try rw [if_neg (by omega)]); all_goals (with_reducible rfl)); simp only [Act.put, List.setIfInBounds_toArray, List.set_cons_zero, List.set_cons_succ]) | (refine Plan.pass (by rfl) ?_; simp only [Act.put, List.setIfInBounds_toArray, List.set_cons_zero, List.set_cons_succ]))
    refine Plan.ends ?_
    go_wp2_with fail
    go_ret
    exact ⟨rfl, K.hb⟩
  · by_cases hz : x.size = 0
    · have hf : fitsB k 7 x.size = true := by simp [fitsB, hz]
      obtain rfl := bytes_none hz
      rw [hf]
      clear hf
      go_enter Tryz.func127, Tryz.ntmps127
      obtain ⟨q0, q1⟩ := hs_cells2 (K.get 0 rfl)
      go_wp2_with fail
      go_ret
      exact ⟨rfl, K.hb⟩
    · have hf : fitsB k 7 x.size = false := by simp [fitsB, hz]
      have hem := bytes_some hz
      rw [hf]
      clear hf
      go_enter Tryz.func127, Tryz.ntmps127
      obtain ⟨q0, q1⟩ := hs_cells2 (K.get 0 rfl)
      go_wp2_with fail
      go_ret
      exact ⟨rfl, K.hb⟩
  · by_cases hz : x.size = 0
    · have hf : fitsB k 1 x.size = true := by simp [fitsB, hz]
      obtain rfl := bytes_none hz
      rw [hf]
      clear hf
      go_enter Tryz.func127, Tryz.ntmps127
      obtain ⟨q0, q1⟩ := hs_cells2 (K.get 0 rfl)
      go_wp2_with fail
      go_ret
      exact ⟨rfl, K.hb⟩
    · have hf : fitsB k 1 x.size = false := by simp [fitsB, hz]
      have hem := bytes_some hz
      rw [hf]
      clear hf
      go_enter Tryz.func127, Tryz.ntmps127
      obtain ⟨q0, q1⟩ := hs_cells2 (K.get 0 rfl)
      go_wp2_with fail
      go_ret
      exact ⟨rfl, K.hb⟩
  · by_cases hz : x.size = 0
    · have hf : fitsB k 2 x.size = true := by simp [fitsB, hz]
      obtain rfl := bytes_none hz
      rw [hf]
      clear hf
      go_enter Tryz.func127, Tryz.ntmps127
      obtain ⟨q0, q1⟩ := hs_cells2 (K.get 0 rfl)
      go_wp2_with fail
      go_ret
      exact ⟨rfl, K.hb⟩
    · have hf : fitsB k 2 x.size = false := by simp [fitsB, hz]
      have hem := bytes_some hz
      rw [hf]
      clear hf
      go_enter Tryz.func127, Tryz.ntmps127
      obtain ⟨q0, q1⟩ := hs_cells2 (K.get 0 rfl)
      go_wp2_with fail
      go_ret
      exact ⟨rfl, K.hb⟩
  · by_cases hz : x.size = 0
    · have hf : fitsB k 3 x.size = true := by simp [fitsB, hz]
      obtain rfl := bytes_none hz
      rw [hf]
      clear hf
      go_enter Tryz.func127, Tryz.ntmps127
      obtain ⟨q0, q1⟩ := hs_cells2 (K.get 0 rfl)
      go_wp2_with fail
      go_ret
      exact ⟨rfl, K.hb⟩
    · have hf : fitsB k 3 x.size = false := by simp [fitsB, hz]
      have hem := bytes_some hz
      rw [hf]
      clear hf
      go_enter Tryz.func127, Tryz.ntmps127
      obtain ⟨q0, q1⟩ := hs_cells2 (K.get 0 rfl)
      go_wp2_with fail
      go_ret
      exact ⟨rfl, K.hb⟩
  · by_cases hz : x.size = 0
    · have hf : fitsB k 12 x.size = true := by simp [fitsB, hz]
      obtain rfl := bytes_none hz
      rw [hf]
      clear hf
      go_enter Tryz.func127, Tryz.ntmps127
      obtain ⟨q0, q1⟩ := hs_cells2 (K.get 0 rfl)
      go_wp2_with fail
      go_ret
      exact ⟨rfl, K.hb⟩
    · have hf : fitsB k 12 x.size = false := by simp [fitsB, hz]
      have hem := bytes_some hz
      rw [hf]
      clear hf
      go_enter Tryz.func127, Tryz.ntmps127
      obtain ⟨q0, q1⟩ := hs_cells2 (K.get 0 rfl)
      go_wp2_with fail
      go_ret
      exact ⟨rfl, K.hb⟩
  · have hf : fitsB k e x.size = false := by simp [fitsB, h0, h7, h1, h2, h3, h12]
    have b0 : (e == 0) = false := by simpa using h0
    have b7 : (e == 7) = false := by simpa using h7
    have b1 : (e == 1) = false := by simpa using h1
    have b2 : (e == 2) = false := by simpa using h2
    have b3 : (e == 3) = false := by simpa using h3
    have b12 : (e == 12) = false := by simpa using h12
    rw [hf]
    clear hf
    go_enter Tryz.func127, Tryz.ntmps127
    obtain ⟨q0, q1⟩ := hs_cells2 (K.get 0 rfl)
    go_wp2_with fail
    go_ret
    exact ⟨rfl, K.hb⟩
theorem hs_info2 : (Tryz.prog.info? 53).map (·.size) = some 2 := by kernel_rfl
theorem rs_eql_run (a c : Int) (b d : ByteArray) (w : World) : (binOp .eql 53 (.agg #[.int .i64 a, .string b]) (.agg #[.int .i64 c, .string d])).run Tryz.prog w = .ok (.bool (decide (a = c) && decide (b = d))) w := by
  go_simp
  simp only [bl_eq]
  repeat' split
  all_goals simp_all
set_option maxHeartbeats 4000000 in
set_option maxRecDepth 20000 in
theorem hisCall_any (e : Ev) (w : World) :
    Calls Tryz.prog 97 #[evV e] w fun r w' => r = .returned (evV (callOf e)) ∧ Below w.heap.size w w' := by
  obtain ⟨er, eq, es, ek, eb, ed, ee, ex⟩ := e
  unfold callOf
  simp only
  have K := ((Env.start w).al (.cells #[.bool er, .int .i64 eq, .int .i64 es, .int .i64 ek, .int .i64 eb, .string ed, .int .i64 ee, .string ex] 55)).al (.cells #[.bool false, .int .i64 0, .int .i64 0, .int .i64 0, .int .i64 0, .string ⟨#[]⟩, .int .i64 0, .string ⟨#[]⟩] 55)
  simp only [World.size_alloc] at K
  go_enter Tryz.func97, Tryz.ntmps97
  obtain ⟨q0, q1, q2, q3, q4, q5, q6, q7⟩ := ev_cells (K.get 1 rfl)
  generalize hw0 : (w.alloc (.cells #[.bool er, .int .i64 eq, .int .i64 es, .int .i64 ek, .int .i64 eb, .string ed, .int .i64 ee, .string ex] 55)).alloc (.cells #[.bool false, .int .i64 0, .int .i64 0, .int .i64 0, .int .i64 0, .string ⟨#[]⟩, .int .i64 0, .string ⟨#[]⟩] 55) = w9 at *
  have hf := K.free 1 rfl 0
  have K1 := K.put1 1 rfl 0 (.bool false) rfl rfl
  simp only [List.set, List.setIfInBounds_toArray] at K1
  have K2 := K1.put 1 rfl (cs' := #[.bool false, .int .i64 eq, .int .i64 es, .int .i64 ek, .int .i64 eb, .string ed, .int .i64 0, .string ⟨#[]⟩]) rfl
  simp only [List.set] at K2
  have K3 := K2.put 0 rfl (cs' := #[.bool false, .int .i64 eq, .int .i64 es, .int .i64 ek, .int .i64 eb, .string ed, .int .i64 0, .string ⟨#[]⟩]) rfl
  simp only [List.set] at K3
  go_wp2_with (first
    | ((with_reducible refine store_mid 53 (.tmp 5) (.tmp 3) w.heap.size 6 #[.int .i64 0, .string ⟨#[]⟩] #[.bool false, .int .i64 eq, .int .i64 es, .int .i64 ek, .int .i64 eb, .string ed, .int .i64 0, .string ⟨#[]⟩] ?_ ?_ (K1.get 1 rfl) ?_ ?_ ?_ ?_ ?_); (· rfl); (· rfl); (· simp); (· exact hs_info2); (· simp [Value.oneCell']); (· simp [spl]); simp only [Act.put])
    | ((with_reducible refine Plan.load_lit 55 (.tmp 1) w.heap.size ?_ (K2.get 1 rfl) Tryz.underlying55 ?_ ?_ ?_); (· rfl); (· rfl); (· exact ev_info); simp only [Act.put, List.setIfInBounds_toArray, List.set_cons_zero, List.set_cons_succ])
    | ((with_reducible refine Plan.store_lit 55 (.tmp 2) _ (w.heap.size + 1) ?_ (K2.get 0 rfl) ?_ ?_ ?_ ?_ ?_ ?_); rotate_left; (· rfl); (· rfl); (· exact ev_info); (· rfl); (· simp [Value.oneCell']); simp only [Act.put]))
  exact bodyPost_ret (results_cell_row rfl _ _ _ _ _ _ _ rfl (K3.get 0 rfl) Tryz.underlying55 rfl ev_info) rfl ⟨rfl, K3.hb⟩
set_option maxHeartbeats 8000000 in
set_option maxRecDepth 20000 in
theorem hisPossible_any (e : Ev) (w : World) :
    Calls Tryz.prog 96 #[evV e] w fun r w' => r = .returned (.bool (possB e)) ∧ Below w.heap.size w w' := by
  obtain ⟨er, eq, es, ek, eb, ed, ee, ex⟩ := e
  have HF := Lib.hid (fun W => hisFits_any ek eb ee ed ex W)
  have HR := Lib.hid (fun W => rs_eql_run ee 0 ex ⟨#[]⟩ W)
  have K := (Env.start w).al (.cells #[.bool er, .int .i64 eq, .int .i64 es, .int .i64 ek, .int .i64 eb, .string ed, .int .i64 ee, .string ex] 55)
  have hP := Lib.hid (Eq.refl (possB ⟨er, eq, es, ek, eb, ed, ee, ex⟩))
  generalize hv : possB ⟨er, eq, es, ek, eb, ed, ee, ex⟩ = V at *
  simp only [possB] at hv
  clear hP
  have hc : eq < 0 ∨ (0 ≤ eq ∧ 4 ≤ eq) ∨ (0 ≤ eq ∧ eq < 4 ∧ es < 0) ∨ (0 ≤ eq ∧ eq < 4 ∧ 0 ≤ es) := by omega
  rcases hc with h1 | ⟨h1, h2⟩ | ⟨h1, h2, h3⟩ | ⟨h1, h2, h3⟩
  · skip
    rw [if_pos (by omega)] at hv
    subst hv
    clear HF HR
    go_enter Tryz.func96, Tryz.ntmps96
    obtain ⟨q0, q1, q2, q3, q4, q5, q6, q7⟩ := ev_cells (K.get 0 rfl)
    go_wp2_with fail
    go_ret
    exact ⟨rfl, K.hb⟩
  · skip
    rw [if_pos (by omega)] at hv
    subst hv
    clear HF HR
    go_enter Tryz.func96, Tryz.ntmps96
    obtain ⟨q0, q1, q2, q3, q4, q5, q6, q7⟩ := ev_cells (K.get 0 rfl)
    go_wp2_with fail
    go_ret
    exact ⟨rfl, K.hb⟩
  · skip
    rw [if_pos (by omega)] at hv
    subst hv
    clear HF HR
    go_enter Tryz.func96, Tryz.ntmps96
    obtain ⟨q0, q1, q2, q3, q4, q5, q6, q7⟩ := ev_cells (K.get 0 rfl)
    go_wp2_with fail
    go_ret
    exact ⟨rfl, K.hb⟩
  · rw [if_neg (by omega)] at hv
    cases er with
    | true =>
      rw [if_pos rfl] at hv
      subst hv
      clear HR
      go_enter Tryz.func96, Tryz.ntmps96
      obtain ⟨q0, q1, q2, q3, q4, q5, q6, q7⟩ := ev_cells (K.get 0 rfl)
      go_wp2_with (first
        | (go_at_call 127; ((with_reducible refine (HF.out _).mono ?_); rintro r9 w1 ⟨rfl, h9⟩; replace K := K.on h9; clear h9)))
      go_ret
      exact ⟨rfl, K.hb⟩
    | false =>
      rw [if_neg (by simp)] at hv
      have hv2 : V = (decide (ee = 0) && decide (ex = ⟨#[]⟩)) := by
        rw [← hv]
        congr 1
        by_cases hz : ex.size = 0
        · rw [decide_eq_true hz, decide_eq_true (size_zero hz)]
        · rw [decide_eq_false hz]; symm; apply decide_eq_false; intro h; rw [h] at hz; exact hz rfl
      subst hv2
      clear hv HF
      have HR2 := fun W => HR.out W
      clear HR
      go_enter Tryz.func96, Tryz.ntmps96
      obtain ⟨q0, q1, q2, q3, q4, q5, q6, q7⟩ := ev_cells (K.get 0 rfl)
      go_wp2_with fail
      go_ret
      exact ⟨rfl, K.hb⟩
end Go.Proofs.YtnmhnjjehglcfaaGreat.Ents
