/- Texts that belong together, part 16. -/
import Derived.Test.YtnmhnjjehglcfaaGreatPack15

/- The beginnings of a history that has a linearization have one. Plain mathematics. -/
namespace Go.Proofs.YtnmhnjjehglcfaaGreat.LinMath
open HisMath ModMath CmdMath
theorem seek_front {p : Ev → Bool} {L : List Ev} {n : Nat} (h : 0 ≤ seek p (L.take n)) : seek p L = seek p (L.take n) := by
  obtain ⟨i, y, hi, hy, hp, hb⟩ := seek_is h
  have hin : i < n := by
    have := (List.getElem?_eq_some_iff.1 hy).1
    rw [List.length_take] at this
    omega
  rw [List.getElem?_take, if_pos hin] at hy
  rw [hi]
  refine seek_at hy hp fun j z hj hz => hb j z hj ?_
  rw [List.getElem?_take, if_pos (by omega)]
  exact hz
theorem op_front {L : List Ev} {n : Nat} {e : Ev} (h : 0 ≤ retI (L.take n) e.serial) : opOf (L.take n) e = opOf L e := by
  have h1 : retI L e.serial = retI (L.take n) e.serial := seek_front h
  obtain ⟨i, y, hi, hy, _, _⟩ := seek_is h
  have hin : i < n := by
    have := (List.getElem?_eq_some_iff.1 hy).1
    rw [List.length_take] at this
    omega
  have hi2 : retI (L.take n) e.serial = (i : Int) := hi
  unfold opOf
  rw [h1, hi2, Int.toNat_natCast, List.getElem?_take, if_pos hin]
theorem before_front {L : List Ev} (h : Right L) {n : Nat} {s t : Int} (hb : beforeB (L.take n) s t = true) : beforeB L s t = true := by
  rw [before_sub (right_take h n)] at hb
  rw [before_sub h]
  obtain ⟨x, y, hs, r⟩ := hb
  exact ⟨x, y, hs.trans (List.take_sublist _ _), r⟩
/-- an operation as the beginning has it -/
def gM (M : List Ev) (x : Ev) : Ev := match M[(invI M x.serial).toNat]? with
  | some e => opOf M e
  | none => x
theorem mem_ops {L : List Ev} (h : Right L) {x : Ev} : x ∈ opsE L L.length ↔ ∃ e ∈ L, e.ret = false ∧ opOf L e = x := by
  rw [ops_right h _ (Nat.le_refl _), List.take_length]
  constructor
  · intro hx
    obtain ⟨e, he, rfl⟩ := List.mem_map.1 hx
    obtain ⟨h1, h2⟩ := List.mem_filter.1 he
    exact ⟨e, h1, by simpa using h2, rfl⟩
  · rintro ⟨e, h1, h2, rfl⟩
    exact List.mem_map.2 ⟨e, List.mem_filter.2 ⟨h1, by simp [h2]⟩, rfl⟩
theorem op_ret {L : List Ev} {e : Ev} (he : e.ret = false) : (opOf L e).ret = decide (0 ≤ retI L e.serial) := by
  by_cases h : 0 ≤ retI L e.serial
  · obtain ⟨i, y, hi, hy, _, _⟩ := seek_is h
    have hi2 : retI L e.serial = (i : Int) := hi
    unfold opOf
    rw [if_pos h, hi2, Int.toNat_natCast, hy]
    simp
  · unfold opOf
    rw [if_neg h]
    simp only [he]
    exact (decide_eq_false h).symm
theorem g_spec {L : List Ev} (hR : Right L) {n : Nat} {x : Ev} (hx : x ∈ opsE L L.length) (hi : 0 ≤ invI (L.take n) x.serial) :
    gM (L.take n) x ∈ opsE (L.take n) (L.take n).length ∧ (gM (L.take n) x).serial = x.serial ∧ cmdOf (gM (L.take n) x) = cmdOf x ∧ ((gM (L.take n) x).ret = true → gM (L.take n) x = x) := by
  have hM := right_take hR n
  obtain ⟨e, he, her, rfl⟩ := (mem_ops hR).1 hx
  have hk := op_cmd L e
  rw [hk.2.2.2.1] at hi
  have heM : (L.take n)[(invI (L.take n) e.serial).toNat]? = some e := by
    obtain ⟨i, y, h1, h2, h3, _⟩ := seek_is hi
    obtain ⟨hyr, hys⟩ := inv_is h3
    have h1' : invI (L.take n) e.serial = (i : Int) := h1
    rw [h1', Int.toNat_natCast, h2]
    have hin : i < n := by
      have := (List.getElem?_eq_some_iff.1 h2).1
      rw [List.length_take] at this
      omega
    rw [List.getElem?_take, if_pos hin] at h2
    obtain ⟨j, hj⟩ := List.mem_iff_getElem?.1 he
    have := hR.one i j y e h2 hj hyr her hys
    subst this
    rw [h2] at hj
    exact hj
  have hg : gM (L.take n) (opOf L e) = opOf (L.take n) e := by
    unfold gM
    rw [hk.2.2.2.1, heM]
  have hk2 := op_cmd (L.take n) e
  rw [hg]
  refine ⟨(mem_ops hM).2 ⟨e, List.mem_of_getElem? heM, her, rfl⟩, by rw [hk.2.2.2.1, hk2.2.2.2.1], ?_, fun hr => ?_⟩
  · unfold cmdOf
    rw [hk.1, hk.2.1, hk.2.2.1, hk2.1, hk2.2.1, hk2.2.2.1]
  · rw [op_ret her, decide_eq_true_eq] at hr
    exact op_front hr
theorem run_front : ∀ (xs ys : List Ev) (B : List ByteArray), (runW B (xs ++ ys)).isSome = true → (runW B xs).isSome = true
  | [], _, _, _ => rfl
  | x :: xs, ys, B, h => by
    rw [List.cons_append, runW] at h
    rw [runW]
    split at h
    · rename_i hf
      rw [if_pos hf]
      exact run_front xs ys _ h
    · cases h
theorem run_map (g : Ev → Ev) : ∀ (xs : List Ev) (B : List ByteArray), (∀ x ∈ xs, cmdOf (g x) = cmdOf x ∧ ((g x).ret = true → g x = x)) → (runW B xs).isSome = true → (runW B (xs.map g)).isSome = true
  | [], _, _, _ => rfl
  | x :: xs, B, hg, h => by
    rw [runW] at h
    split at h
    · rename_i hf
      obtain ⟨h1, h2⟩ := hg x (by simp)
      have hf2 : fitR B (g x) := fun hr => by
        have := h2 hr
        rw [this] at hr ⊢
        exact hf hr
      rw [List.map_cons, runW, if_pos hf2, h1]
      exact run_map g xs _ (fun y hy => hg y (List.mem_cons_of_mem _ hy)) h
    · cases h
theorem lin_front {B : List ByteArray} {L : List Ev} (hR : Right L) {xs : List Ev} (h : LinX B L xs) (n : Nat) : ∃ zs, LinX B (L.take n) zs := by
  have hM := right_take hR n
  let p : Ev → Bool := fun x => decide (0 ≤ invI (L.take n) x.serial)
  let pre := xs.takeWhile p
  have hcat : pre ++ xs.dropWhile p = xs := List.takeWhile_append_dropWhile
  have hpre : ∀ x ∈ pre, x ∈ xs ∧ 0 ≤ invI (L.take n) x.serial := fun x hx => by
    refine ⟨by rw [← hcat]; exact List.mem_append_left _ hx, ?_⟩
    have := List.all_takeWhile (p := p) (l := xs)
    rw [List.all_eq_true] at this
    exact of_decide_eq_true (this x hx)
  have hg := fun x (hx : x ∈ pre) => g_spec hR (h.mem x (hpre x hx).1) (hpre x hx).2
  have hsub : List.Sublist pre xs := List.takeWhile_sublist _
  refine ⟨pre.map (gM (L.take n)), fun z hz => ?_, ?_, fun z hz => ?_, fun y hy hmu => ?_, ?_, ?_⟩
  · obtain ⟨x, hx, rfl⟩ := List.mem_map.1 hz
    exact (hg x hx).1
  · rw [List.pairwise_map]
    refine (h.nd.sublist hsub).imp_of_mem fun {a b} ha hb hab => ?_
    rw [(hg a ha).2.1, (hg b hb).2.1]
    exact hab
  · obtain ⟨x, hx, rfl⟩ := List.mem_map.1 hz
    cases hr : (gM (L.take n) x).ret with
    | false => simp [skipP, hr]
    | true =>
      rw [(hg x hx).2.2.2 hr]
      exact h.skip x (hpre x hx).1
  · obtain ⟨e, he, her, rfl⟩ := (mem_ops hM).1 hy
    have heL : e ∈ L := List.mem_of_mem_take he
    have hr : (opOf (L.take n) e).ret = true := by
      unfold mustP at hmu
      rw [Bool.and_eq_true] at hmu
      exact hmu.1
    rw [op_ret her, decide_eq_true_eq] at hr
    have hop := op_front hr
    rw [hop] at hmu
    have hxo := (mem_ops hR).2 ⟨e, heL, her, rfl⟩
    have hxs := h.must _ hxo hmu
    have hser := (op_cmd L e).2.2.2.1
    have hinv := hM.inv_at he her
    have hinp : opOf L e ∈ pre := by
      rw [← hcat] at hxs
      rcases List.mem_append.1 hxs with h1 | h1
      · exact h1
      · exfalso
        cases hd : xs.dropWhile p with
        | nil => rw [hd] at h1; cases h1
        | cons x rest =>
          have hnp : p x = false := by
            have := List.head_dropWhile_not p (w := (by rw [hd]; exact List.cons_ne_nil _ _))
            simpa [hd] using this
          rw [hd] at h1
          rcases List.mem_cons.1 h1 with rfl | h1
          · have := of_decide_eq_false hnp
            rw [hser] at this
            omega
          · have hord := h.ord
            rw [← hcat, hd, List.pairwise_append] at hord
            have hf := (List.pairwise_cons.1 hord.2.1).1 _ h1
            have hx : x ∈ opsE L L.length := h.mem x (by rw [← hcat, hd]; simp)
            obtain ⟨e2, he2, her2, rfl⟩ := (mem_ops hR).1 hx
            have hser2 := (op_cmd L e2).2.2.2.1
            have hn2 := of_decide_eq_false hnp
            rw [hser2] at hn2
            have hi2 := hR.inv_at he2 her2
            have hret : retI L e.serial = retI (L.take n) e.serial := seek_front hr
            obtain ⟨i, y, q1, q2, _, _⟩ := seek_is hr
            have q1' : retI (L.take n) e.serial = (i : Int) := q1
            have hin : i < n := by
              have := (List.getElem?_eq_some_iff.1 q2).1
              rw [List.length_take] at this
              omega
            have hge : (n : Int) ≤ invI L e2.serial := by
              rcases Int.lt_or_le (invI L e2.serial) n with h9 | h9
              · exfalso
                have hm : e2 ∈ L.take n := List.mem_of_getElem? (i := (invI L e2.serial).toNat) (by
                  rw [List.getElem?_take, if_pos (by omega)]; exact hi2.2)
                exact hn2 (hM.inv_at hm her2).1
              · exact h9
            rw [hser, hser2] at hf
            have : beforeB L e.serial e2.serial = true := by
              simp only [beforeB, Bool.and_eq_true, decide_eq_true_eq]
              omega
            rw [this] at hf
            cases hf
    refine List.mem_map.2 ⟨opOf L e, hinp, ?_⟩
    have hs := hg _ hinp
    exact ops_one hM hs.1 hy (by rw [hs.2.1, hser, (op_cmd (L.take n) e).2.2.2.1])
  · rw [List.pairwise_map]
    refine (h.ord.sublist hsub).imp_of_mem fun {t s} ht hs hts => ?_
    rw [(hg t ht).2.1, (hg s hs).2.1]
    cases hb : beforeB (L.take n) s.serial t.serial with
    | false => rfl
    | true => rw [before_front hR hb] at hts; cases hts
  · have hrun := h.run
    rw [← hcat] at hrun
    exact run_map _ _ _ (fun x hx => (hg x hx).2.2) (run_front _ _ _ hrun)
end Go.Proofs.YtnmhnjjehglcfaaGreat.LinMath

/- The events of a block as events of the block 0, and when a history has a linearization. Plain mathematics. -/
namespace Go.Proofs.YtnmhnjjehglcfaaGreat.LinMath
open HisMath ModMath CmdMath
/-- an event of another block -/
def blkEv (d : Int) (x : Ev) : Ev := { x with block := d }
def aloneE (L : List Ev) (b : Int) : List Ev := (restE L b).map (blkEv 0)
theorem right_blk (d : Int) {L : List Ev} (h : Right L) : Right (L.map (blkEv d)) := by
  induction h with
  | nil => exact .nil
  | @inv L x _ hi ih =>
    rw [List.map_append, List.map_singleton]
    refine .inv ih ⟨hi.ret, hi.q0, hi.q4, hi.s0, fun y hy => ?_, hi.err, hi.res⟩
    obtain ⟨z, hz, rfl⟩ := List.mem_map.1 hy
    exact hi.fresh z hz
  | @ret L x _ hi ih =>
    rw [List.map_append, List.map_singleton]
    obtain ⟨y, hy, h1, h2, h3, h4, h5, h6⟩ := hi.one
    refine .ret ih ⟨hi.ret, hi.q0, hi.q4, hi.s0, ⟨blkEv d y, List.mem_map.2 ⟨y, hy, rfl⟩, h1, h2, h3, h4, rfl, h6⟩, fun z hz hr => ?_, hi.fits⟩
    obtain ⟨w, hw, rfl⟩ := List.mem_map.1 hz
    exact hi.open' w hw hr
theorem seek_map {p : Ev → Bool} (g : Ev → Ev) (hp : ∀ x, p (g x) = p x) (L : List Ev) : seek p (L.map g) = seek p L := by
  unfold seek
  rw [List.findIdx?_map]
  have : p ∘ g = p := funext hp
  rw [this]
theorem ret_blk (d s : Int) (L : List Ev) : retI (L.map (blkEv d)) s = retI L s := seek_map (p := retP s) (blkEv d) (fun _ => rfl) L
theorem op_blk (d : Int) (L : List Ev) (e : Ev) : opOf (L.map (blkEv d)) (blkEv d e) = blkEv d (opOf L e) := by
  unfold opOf
  rw [ret_blk]
  show (match (if 0 ≤ retI L e.serial then (L.map (blkEv d))[(retI L e.serial).toNat]? else none) with
  | some y => { blkEv d e with ret := true, err := y.err, res := y.res }
  | none => blkEv d e) = _
  rw [List.getElem?_map]
  by_cases h : 0 ≤ retI L e.serial
  · simp only [if_pos h]
    cases L[(retI L e.serial).toNat]? <;> rfl
  · simp only [if_neg h]
theorem ops_blk (d : Int) {L : List Ev} (h : Right L) : opsE (L.map (blkEv d)) (L.map (blkEv d)).length = (opsE L L.length).map (blkEv d) := by
  rw [ops_right (right_blk d h) _ (Nat.le_refl _), ops_right h _ (Nat.le_refl _), List.take_length, List.take_length, List.filter_map, List.map_map, List.map_map]
  have : (fun e : Ev => !e.ret) ∘ blkEv d = fun e => !e.ret := rfl
  rw [this]
  refine List.map_congr_left fun e _ => ?_
  exact op_blk d L e
theorem rest_ops {L : List Ev} (hR : Right L) (b : Nat) : ∀ x ∈ opsE (restE L (b : Int)) (restE L (b : Int)).length, x.block = (b : Int) ∧ (x.kind = 1 ∨ x.kind = 2 ∨ x.kind = 3) := fun x hx => by
  unfold restE at hx
  rw [ops_part hR (rest_byCmd (b : Int))] at hx
  exact rest_kind (List.mem_filter.1 hx).2
theorem orders_iff {B : List ByteArray} {L : List Ev} (hR : Right L) : (∃ o, linOk B L o = true) ↔ ∃ xs, LinX B L xs := by
  constructor
  · rintro ⟨o, h⟩
    obtain ⟨xs, _, hx⟩ := (lin_iff B (right_opn hR) o).1 h
    exact ⟨xs, hx⟩
  · rintro ⟨xs, h⟩
    exact ⟨_, (lin_iff B (right_opn hR) _).2 ⟨xs, rfl, h⟩⟩
end Go.Proofs.YtnmhnjjehglcfaaGreat.LinMath

/- Histories in the making: what has happened, and which operations are open. Plain mathematics. -/
namespace Go.Proofs.YtnmhnjjehglcfaaGreat.HisMath
/-- O: what has happened; P: the invocations without a return; s: all numbers are below -/
structure Made (O P : List Ev) (s : Int) : Prop where
  right : Right O
  low : ∀ x ∈ O, x.serial < s
  cmd : ∀ x ∈ O, 1 ≤ x.kind ∧ x.kind ≤ 4 ∧ 0 ≤ x.block ∧ x.block ≤ 2
  calls : ∀ x ∈ P, x ∈ O ∧ x.ret = false
  open' : ∀ x ∈ P, ∀ y ∈ O, y.ret = true → y.serial ≠ x.serial
  apart : P.Pairwise (fun x y => x.serial ≠ y.serial)
theorem Made.start : Made [] [] 0 := ⟨.nil, by simp, by simp, by simp, by simp, .nil⟩
theorem Right.clean {L : List Ev} (h : Right L) : ∀ x ∈ L, x.ret = false → x.err = 0 ∧ x.res.size = 0 := by
  induction h with
  | nil => simp
  | inv hL hx ih =>
    intro y hy hr
    rcases List.mem_append.1 hy with h1 | h1
    · exact ih y h1 hr
    · rw [List.mem_singleton.1 h1]; exact ⟨hx.err, hx.res⟩
  | ret hL hx ih =>
    intro y hy hr
    rcases List.mem_append.1 hy with h1 | h1
    · exact ih y h1 hr
    · rw [List.mem_singleton.1 h1, hx.ret] at hr; cases hr
theorem Right.range {L : List Ev} (h : Right L) : ∀ x ∈ L, 0 ≤ x.queue ∧ x.queue < 4 ∧ 0 ≤ x.serial := by
  induction h with
  | nil => simp
  | inv hL hx ih =>
    intro y hy
    rcases List.mem_append.1 hy with h1 | h1
    · exact ih y h1
    · rw [List.mem_singleton.1 h1]; exact ⟨hx.q0, hx.q4, hx.s0⟩
  | ret hL hx ih =>
    intro y hy
    rcases List.mem_append.1 hy with h1 | h1
    · exact ih y h1
    · rw [List.mem_singleton.1 h1]; exact ⟨hx.q0, hx.q4, hx.s0⟩
theorem Made.calls_clean {O P : List Ev} {s : Int} (h : Made O P s) {k : Nat} {e : Ev} (he : P[k]? = some e) : e.ret = false ∧ e.err = 0 ∧ e.res.size = 0 ∧ 1 ≤ e.kind ∧ e.kind ≤ 4 := by
  have h1 := h.calls e (List.mem_of_getElem? he)
  have h2 := h.right.clean e h1.1 h1.2
  have h3 := h.cmd e h1.1
  exact ⟨h1.2, h2.1, h2.2, h3.1, h3.2.1⟩
/-- an operation is invoked -/
theorem Made.inv {O P : List Ev} {s : Int} (h : Made O P s) {x : Ev} (hr : x.ret = false) (q0 : 0 ≤ x.queue) (q4 : x.queue < 4) (hs : x.serial = s) (h0 : 0 ≤ s) (he : x.err = 0) (hx : x.res.size = 0)
    (hc : 1 ≤ x.kind ∧ x.kind ≤ 4 ∧ 0 ≤ x.block ∧ x.block ≤ 2) : Made (O ++ [x]) (P ++ [x]) (s + 1) := by
  refine ⟨.inv h.right ⟨hr, q0, q4, by omega, fun y hy => by have := h.low y hy; omega, he, hx⟩, fun y hy => ?_, fun y hy => ?_, fun y hy => ?_, fun y hy z hz hzr => ?_, ?_⟩
  · rcases List.mem_append.1 hy with h1 | h1
    · have := h.low y h1; omega
    · rw [List.mem_singleton.1 h1]; omega
  · rcases List.mem_append.1 hy with h1 | h1
    · exact h.cmd y h1
    · rw [List.mem_singleton.1 h1]; exact hc
  · rcases List.mem_append.1 hy with h1 | h1
    · exact ⟨List.mem_append_left _ (h.calls y h1).1, (h.calls y h1).2⟩
    · rw [List.mem_singleton.1 h1]; exact ⟨by simp, hr⟩
  · rcases List.mem_append.1 hz with h2 | h2
    · rcases List.mem_append.1 hy with h1 | h1
      · exact h.open' y h1 z h2 hzr
      · rw [List.mem_singleton.1 h1]; have := h.low z h2; omega
    · rw [List.mem_singleton.1 h2, hr] at hzr; cases hzr
  · rw [List.pairwise_append]
    refine ⟨h.apart, List.pairwise_singleton _ _, fun y hy z hz => ?_⟩
    rw [List.mem_singleton.1 hz]
    have := h.low y (h.calls y hy).1
    omega
/-- an open operation returns -/
theorem Made.ret {O P : List Ev} {s : Int} (h : Made O P s) {k : Nat} {e x : Ev} (he : P[k]? = some e) (hr : x.ret = true) (hq : x.queue = e.queue) (hs : x.serial = e.serial) (hk : x.kind = e.kind) (hb : x.block = e.block) (hd : x.data = e.data)
    (hf : fitsB x.kind x.err x.res.size = true) (t : Int) (ht : s ≤ t) : Made (O ++ [x]) (P.take k ++ P.drop (k + 1)) t := by
  have hm := List.mem_of_getElem? he
  have h1 := h.calls e hm
  have h2 := h.right.range e h1.1
  have hsub : ∀ y ∈ P.take k ++ P.drop (k + 1), y ∈ P := fun y hy => by
    rcases List.mem_append.1 hy with h3 | h3
    · exact List.mem_of_mem_take h3
    · exact List.mem_of_mem_drop h3
  have hpk : P = P.take k ++ e :: P.drop (k + 1) := by
    have hlt := (List.getElem?_eq_some_iff.1 he).1
    have h5 := (List.getElem?_eq_some_iff.1 he).2
    rw [← h5, List.getElem_cons_drop, List.take_append_drop]
  have hne : ∀ y ∈ P.take k ++ P.drop (k + 1), y.serial ≠ e.serial := fun y hy => by
    have hp := h.apart
    rw [hpk, List.pairwise_append, List.pairwise_cons] at hp
    rcases List.mem_append.1 hy with h3 | h3
    · exact hp.2.2 y h3 e List.mem_cons_self
    · exact fun h9 => hp.2.1.1 y h3 h9.symm
  refine ⟨.ret h.right ⟨hr, by omega, by omega, by omega, ⟨e, h1.1, h1.2, hs.symm, hq.symm, hk.symm, hb.symm, hd.symm⟩, fun y hy hyr => ?_, hf⟩, fun y hy => ?_, fun y hy => ?_, fun y hy => ?_, fun y hy z hz hzr => ?_, ?_⟩
  · rw [hs]; exact h.open' e hm y hy hyr
  · rcases List.mem_append.1 hy with h3 | h3
    · have := h.low y h3; omega
    · rw [List.mem_singleton.1 h3, hs]; have := h.low e h1.1; omega
  · rcases List.mem_append.1 hy with h3 | h3
    · exact h.cmd y h3
    · rw [List.mem_singleton.1 h3, hk, hb]; exact h.cmd e h1.1
  · exact ⟨List.mem_append_left _ (h.calls y (hsub y hy)).1, (h.calls y (hsub y hy)).2⟩
  · rcases List.mem_append.1 hz with h3 | h3
    · exact h.open' y (hsub y hy) z h3 hzr
    · rw [List.mem_singleton.1 h3, hs]; exact fun h9 => hne y hy h9.symm
  · have hp := h.apart
    rw [hpk, List.pairwise_append, List.pairwise_cons] at hp
    rw [List.pairwise_append]
    exact ⟨hp.1, hp.2.1.2, fun y hy z hz => hp.2.2 y hy z (List.mem_cons_of_mem _ hz)⟩
end Go.Proofs.YtnmhnjjehglcfaaGreat.HisMath

/- Histories of operations that happen at once between their invocation and their return have a linearization. Plain mathematics. -/
namespace Go.Proofs.YtnmhnjjehglcfaaGreat.LinMath
open HisMath ModMath CmdMath
def clrEv (x : Ev) : Ev := { x with err := 0, res := ⟨#[]⟩ }
def retEv (x : Ev) : Ev := { x with ret := true }
/-- what was applied: xs, in its order -/
structure Applied (B0 : List ByteArray) (O P : List Ev) (A : Int → Bool) (B : List ByteArray) (xs : List Ev) : Prop where
  run : runW B0 xs = some B
  inv : ∀ x ∈ xs, A x.serial = true ∧ ∃ e ∈ O, e.ret = false ∧ e.serial = x.serial ∧ cmdOf e = cmdOf x
  retx : ∀ x ∈ xs, x.ret = true
  nd : xs.Pairwise (fun x y => x.serial ≠ y.serial)
  opn : ∀ e ∈ P, A e.serial = true → retEv e ∈ xs
  done : ∀ y ∈ O, y.ret = true → y ∈ xs
  ord : xs.Pairwise (fun t s => beforeB O s.serial t.serial = false)
structure LMade (n m : Nat) (wrong : Bool) (O P : List Ev) (A : Int → Bool) (B : List ByteArray) (s : Int) : Prop where
  made : Made O (P.map clrEv) s
  cmds : ∀ x ∈ O, checkC (n : Int) x.kind x.block x.data.size = 0 ∧ x.kind ≠ 4
  len : B.length = n
  size : ∀ v ∈ B, v.size = 16
  low : ∀ t, A t = true → t < s
  res : ∀ e ∈ P, A e.serial = true → e.err = 0 ∧ fitsB e.kind 0 e.res.size = true
  retd : ∀ y ∈ O, y.ret = true → y.err = 0
  count : (invs O).length = P.length + (rets O).length
  few : 2 * (invs O).length ≤ m + 5
  app : wrong = false → ∃ xs, Applied (newB (n : Int)) O P A B xs
theorem newB_is {n : Nat} (h1 : 1 ≤ n) (h2 : n ≤ 128) : newB (n : Int) = List.replicate n zeroC := by
  unfold newB
  rw [if_neg (by omega), Int.toNat_natCast]
theorem LMade.start {n : Nat} (m : Nat) (wrong : Bool) (h1 : 1 ≤ n) (h2 : n ≤ 128) : LMade n m wrong [] [] (fun _ => false) (newB (n : Int)) 0 := by
  refine ⟨Made.start, by simp, ?_, ?_, by simp, by simp, by simp, rfl, by simp [invs], fun _ => ⟨[], rfl, by simp, by simp, .nil, by simp, by simp, .nil⟩⟩
  · rw [newB_is h1 h2]; simp
  · rw [newB_is h1 h2]
    intro v hv
    rw [(List.mem_replicate.1 hv).2]
    rfl
theorem LMade.mono {n m : Nat} {wrong : Bool} {O P : List Ev} {A : Int → Bool} {B : List ByteArray} {s t : Int} (h : LMade n m wrong O P A B s) (hst : s ≤ t) : LMade n m wrong O P A B t :=
  ⟨⟨h.made.right, fun x hx => by have := h.made.low x hx; omega, h.made.cmd, h.made.calls, h.made.open', h.made.apart⟩, h.cmds, h.len, h.size, fun u hu => by have := h.low u hu; omega, h.res, h.retd, h.count, h.few, h.app⟩
/-- what is before what behind one more event -/
theorem before_snoc {O : List Ev} {x : Ev} (h : Right (O ++ [x])) {s t : Int} (hb : beforeB (O ++ [x]) s t = true) : beforeB O s t = true ∨ (x.ret = false ∧ x.serial = t) := by
  have hO := right_front h
  obtain ⟨p, q, hs, hp1, hp2, hq1, hq2⟩ := (before_sub h).1 hb
  obtain ⟨l1, l2, he, h1, h2⟩ := List.sublist_append_iff.1 hs
  cases l2 with
  | nil =>
    rw [List.append_nil] at he
    subst he
    exact .inl ((before_sub hO).2 ⟨p, q, h1, hp1, hp2, hq1, hq2⟩)
  | cons a l2 =>
    have hl : l2 = [] := by
      have := h2.length_le
      simp at this
      exact this
    subst hl
    have ha : a = x := by simpa using h2
    subst ha
    have : q = a := by
      have := congrArg List.getLast? he
      simpa using this
    subst this
    exact .inr ⟨hq1, hq2⟩
theorem inv_ret : ∀ (O : List Ev), (invs O).length + (rets O).length = O.length
  | [] => rfl
  | x :: O => by
    have := inv_ret O
    unfold invs rets at this ⊢
    cases hr : x.ret <;> simp [hr] <;> omega
theorem apart_set {P : List Ev} (ha : P.Pairwise (fun x y => x.serial ≠ y.serial)) {k : Nat} {e f g : Ev} (he : P[k]? = some e) (hf : f ∈ P.set k g) : f = g ∨ (f ∈ P ∧ f.serial ≠ e.serial) := by
  obtain ⟨i, hi⟩ := List.mem_iff_getElem?.1 hf
  rw [List.getElem?_set] at hi
  obtain ⟨hk, he⟩ := List.getElem?_eq_some_iff.1 he
  by_cases hik : k = i
  · rw [if_pos hik, if_pos (by omega)] at hi
    exact .inl (Option.some.inj hi).symm
  · rw [if_neg hik] at hi
    obtain ⟨hl, hi⟩ := List.getElem?_eq_some_iff.1 hi
    rw [List.pairwise_iff_getElem] at ha
    refine .inr ⟨hi ▸ List.getElem_mem hl, fun hs => ?_⟩
    rcases Nat.lt_or_gt_of_ne hik with h | h
    · exact ha k i hk hl h (by rw [he, hi, hs])
    · exact ha i k hl hk h (by rw [he, hi, hs])
theorem LMade.apart {n m : Nat} {wrong : Bool} {O P : List Ev} {A : Int → Bool} {B : List ByteArray} {s : Int} (h : LMade n m wrong O P A B s) : P.Pairwise (fun x y => x.serial ≠ y.serial) := by
  have := h.made.apart
  rw [List.pairwise_map] at this
  exact this
theorem LMade.inv {n m : Nat} {wrong : Bool} {O P : List Ev} {A : Int → Bool} {B : List ByteArray} {s : Int} (h : LMade n m wrong O P A B s) {x : Ev} (hr : x.ret = false) (q0 : 0 ≤ x.queue) (q4 : x.queue < 4) (hs : x.serial = s) (h0 : 0 ≤ s) (he : x.err = 0) (hx : x.res = ⟨#[]⟩)
    (hc : checkC (n : Int) x.kind x.block x.data.size = 0) (hk : x.kind ≠ 4) (hn : n ≤ 3) (hP : P.length < 5) (hO : O.length < m) : LMade n m wrong (O ++ [x]) (P ++ [x]) A B (s + 1) := by
  have hz := check_zero hc
  have hb := hz.2.2 hk
  have hclr : clrEv x = x := by
    obtain ⟨a1, a2, a3, a4, a5, a6, a7, a8⟩ := x
    simp only at he hx
    subst he; subst hx
    rfl
  have hA : A x.serial = false := by
    cases hq : A x.serial with
    | false => rfl
    | true => have := h.low _ hq; omega
  have hM : Made (O ++ [x]) ((P ++ [x]).map clrEv) (s + 1) := by
    rw [List.map_append, List.map_singleton, hclr]
    exact h.made.inv hr q0 q4 hs h0 he (by rw [hx]; rfl) ⟨hz.1.1, hz.1.2, hb.1, by omega⟩
  have hinv : (invs (O ++ [x])).length = (invs O).length + 1 := by simp [invs, hr]
  have hret : (rets (O ++ [x])).length = (rets O).length := by simp [rets, hr]
  have hsum : (invs O).length + (rets O).length = O.length := inv_ret O
  have hcount := h.count
  refine ⟨hM, fun y hy => ?_, h.len, h.size, fun t ht => by have := h.low t ht; omega, fun e he' hA' => ?_, fun y hy hyr => ?_, ?_, ?_, fun hw => ?_⟩
  · rcases List.mem_append.1 hy with h1 | h1
    · exact h.cmds y h1
    · rw [List.mem_singleton.1 h1]; exact ⟨hc, hk⟩
  · rcases List.mem_append.1 he' with h1 | h1
    · exact h.res e h1 hA'
    · rw [List.mem_singleton.1 h1, hA] at hA'; cases hA'
  · rcases List.mem_append.1 hy with h1 | h1
    · exact h.retd y h1 hyr
    · rw [List.mem_singleton.1 h1, hr] at hyr; cases hyr
  · rw [hinv, hret, List.length_append, List.length_singleton]; omega
  · rw [hinv]; omega
  · obtain ⟨xs, q⟩ := h.app hw
    refine ⟨xs, q.run, fun y hy => ?_, q.retx, q.nd, fun e he' hA' => ?_, fun y hy hyr => ?_, ?_⟩
    · obtain ⟨h1, e, h2, h3⟩ := q.inv y hy
      exact ⟨h1, e, List.mem_append_left _ h2, h3⟩
    · rcases List.mem_append.1 he' with h1 | h1
      · exact q.opn e h1 hA'
      · rw [List.mem_singleton.1 h1, hA] at hA'; cases hA'
    · rcases List.mem_append.1 hy with h1 | h1
      · exact q.done y h1 hyr
      · rw [List.mem_singleton.1 h1, hr] at hyr; cases hyr
    · refine q.ord.imp_of_mem fun {t u} ht hu htu => ?_
      cases hbf : beforeB (O ++ [x]) u.serial t.serial with
      | false => rfl
      | true =>
        exfalso
        rcases before_snoc hM.right hbf with h1 | h1
        · rw [h1] at htu; cases htu
        · have := (q.inv t ht).1
          rw [← h1.2, hA] at this
          cases this
theorem set_clr {P : List Ev} {k : Nat} {e f : Ev} (he : P[k]? = some e) (hf : clrEv f = clrEv e) : (P.set k f).map clrEv = P.map clrEv := by
  rw [List.map_set, hf]
  apply List.ext_getElem?
  intro i
  rw [List.getElem?_set]
  split
  · rename_i hi
    subst hi
    rw [List.getElem?_map, he, List.length_map, if_pos (List.getElem?_eq_some_iff.1 he).1]
    rfl
  · rfl
theorem LMade.apply {n m : Nat} {wrong : Bool} {O P : List Ev} {A : Int → Bool} {B : List ByteArray} {s : Int} (h : LMade n m wrong O P A B s) {k : Nat} {e : Ev} (he : P[k]? = some e) (hA : A e.serial = false) :
    LMade n m wrong O (P.set k { e with err := (applyR B (cmdOf e)).err, res := (applyR B (cmdOf e)).data }) (fun t => if t = e.serial then true else A t) (applyB B (cmdOf e)) s := by
  have hm := List.mem_of_getElem? he
  have hc := h.made.calls (clrEv e) (List.mem_map.2 ⟨e, hm, rfl⟩)
  have hop := h.made.open' (clrEv e) (List.mem_map.2 ⟨e, hm, rfl⟩)
  have hcm : checkC (n : Int) e.kind e.block e.data.size = 0 ∧ e.kind ≠ 4 := h.cmds (clrEv e) hc.1
  have hz := check_zero hcm.1
  have hb := hz.2.2 hcm.2
  have herr : errM B (cmdOf e) = 0 := by unfold errM; rw [h.len]; exact hcm.1
  have hR0 : (applyR B (cmdOf e)).err = 0 := by
    unfold applyR
    rw [if_neg (by omega)]
    split <;> rfl
  have hfit : fitsB e.kind 0 (applyR B (cmdOf e)).data.size = true := by
    unfold applyR fitsB
    rw [if_neg (show ¬ errM B (cmdOf e) ≠ 0 by omega), if_pos rfl]
    by_cases h1 : e.kind = 1
    · rw [if_pos h1, if_pos (show (cmdOf e).kind = 1 from h1)]
      have hlt : (cmdOf e).block.toNat < B.length := by
        rw [h.len]
        show e.block.toNat < n
        omega
      rw [List.getD_eq_getElem?_getD, List.getElem?_eq_getElem hlt]
      exact decide_eq_true (h.size _ (List.getElem_mem hlt))
    · rw [if_neg h1, if_neg (show ¬ (cmdOf e).kind = 1 from h1)]
      rfl
  have hset : (P.set k { e with err := (applyR B (cmdOf e)).err, res := (applyR B (cmdOf e)).data }).map clrEv = P.map clrEv := set_clr he rfl
  refine ⟨by rw [hset]; exact h.made, h.cmds, by rw [apply_len]; exact h.len, fun v hv => ?_, fun t ht => ?_, fun f hf hA' => ?_, h.retd, by rw [List.length_set]; exact h.count, h.few, fun hw => ?_⟩
  · unfold applyB at hv
    rw [if_neg (by omega)] at hv
    split at hv
    · rename_i h2
      rcases List.mem_or_eq_of_mem_set hv with h1 | h1
      · exact h.size v h1
      · rw [h1]
        show e.data.size = 16
        have h2' : e.kind = 2 := h2
        have := hcm.1
        unfold checkC at this
        split at this
        · omega
        · split at this
          · omega
          · split at this
            · omega
            · rename_i a b c
              omega
    · split at hv
      · rcases List.mem_or_eq_of_mem_set hv with h1 | h1
        · exact h.size v h1
        · rw [h1]; rfl
      · exact h.size v hv
  · by_cases h1 : t = e.serial
    · have := h.made.low _ hc.1
      have h2 : (clrEv e).serial = e.serial := rfl
      omega
    · simp only [if_neg h1] at ht
      exact h.low t ht
  · rcases apart_set h.apart he hf with h1 | ⟨h1, h2⟩
    · rw [h1]
      exact ⟨hR0, hfit⟩
    · simp only [if_neg h2] at hA'
      exact h.res f h1 hA'
  · obtain ⟨xs, q⟩ := h.app hw
    refine ⟨xs ++ [retEv { e with err := (applyR B (cmdOf e)).err, res := (applyR B (cmdOf e)).data }], ?_, fun y hy => ?_, fun y hy => ?_, ?_, fun f hf hA' => ?_, fun y hy hyr => List.mem_append_left _ (q.done y hy hyr), ?_⟩
    · rw [runW_snoc, q.run]
      have hff : fitR B (retEv { e with err := (applyR B (cmdOf e)).err, res := (applyR B (cmdOf e)).data }) := fun _ => ⟨rfl, rfl⟩
      simp only [if_pos hff]
      rfl
    · rcases List.mem_append.1 hy with h1 | h1
      · obtain ⟨a1, a2⟩ := q.inv y h1
        refine ⟨?_, a2⟩
        show (if y.serial = e.serial then true else A y.serial) = true
        split
        · rfl
        · exact a1
      · rw [List.mem_singleton.1 h1]
        exact ⟨if_pos rfl, clrEv e, hc.1, hc.2, rfl, rfl⟩
    · rcases List.mem_append.1 hy with h1 | h1
      · exact q.retx y h1
      · rw [List.mem_singleton.1 h1]; rfl
    · rw [List.pairwise_append]
      refine ⟨q.nd, List.pairwise_singleton _ _, fun y hy z hz hs => ?_⟩
      rw [List.mem_singleton.1 hz] at hs
      have := (q.inv y hy).1
      rw [hs] at this
      have h9 : A e.serial = true := this
      rw [hA] at h9; cases h9
    · rcases apart_set h.apart he hf with h1 | ⟨h1, h2⟩
      · rw [h1]; simp
      · simp only [if_neg h2] at hA'
        exact List.mem_append_left _ (q.opn f h1 hA')
    · rw [List.pairwise_append]
      refine ⟨q.ord, List.pairwise_singleton _ _, fun y hy z hz => ?_⟩
      rw [List.mem_singleton.1 hz]
      show beforeB O e.serial y.serial = false
      have hret : retI O e.serial < 0 := ret_neg.2 fun w hw hwr => hop w hw hwr
      unfold beforeB
      rw [decide_eq_false (by omega), Bool.false_and, Bool.false_and]
/-- a return of an operation that was applied -/
theorem LMade.ret {n m : Nat} {wrong : Bool} {O P : List Ev} {A : Int → Bool} {B : List ByteArray} {s : Int} (h : LMade n m wrong O P A B s) {k : Nat} {e x : Ev} (he : P[k]? = some e) (hA : A e.serial = true) (hx : x = retEv e ∨ (wrong = true ∧ e.kind = 1 ∧ ∃ v : ByteArray, v.size = 16 ∧ x = { retEv e with res := v })) :
    LMade n m wrong (O ++ [x]) (P.take k ++ P.drop (k + 1)) A B s := by
  have hm := List.mem_of_getElem? he
  have hc := h.made.calls (clrEv e) (List.mem_map.2 ⟨e, hm, rfl⟩)
  have hre := h.res e hm hA
  have hxs : x.ret = true ∧ x.queue = e.queue ∧ x.serial = e.serial ∧ x.kind = e.kind ∧ x.block = e.block ∧ x.data = e.data ∧ x.err = 0 ∧ fitsB x.kind x.err x.res.size = true := by
    rcases hx with rfl | ⟨_, hk, v, hv, rfl⟩
    · refine ⟨rfl, rfl, rfl, rfl, rfl, rfl, hre.1, ?_⟩
      show fitsB e.kind e.err e.res.size = true
      rw [hre.1]; exact hre.2
    · refine ⟨rfl, rfl, rfl, rfl, rfl, rfl, hre.1, ?_⟩
      show fitsB e.kind e.err v.size = true
      rw [hre.1, hv, hk]; rfl
  obtain ⟨x1, x2, x3, x4, x5, x6, x7, x8⟩ := hxs
  have hM : Made (O ++ [x]) ((P.take k ++ P.drop (k + 1)).map clrEv) s := by
    rw [List.map_append, List.map_take, List.map_drop]
    exact h.made.ret (e := clrEv e) (by rw [List.getElem?_map, he]; rfl) x1 x2 x3 x4 x5 x6 x8 s (Int.le_refl _)
  have hsub : ∀ y ∈ P.take k ++ P.drop (k + 1), y ∈ P := fun y hy => by
    rcases List.mem_append.1 hy with h3 | h3
    · exact List.mem_of_mem_take h3
    · exact List.mem_of_mem_drop h3
  have hinv : (invs (O ++ [x])).length = (invs O).length := by simp [invs, x1]
  have hret : (rets (O ++ [x])).length = (rets O).length + 1 := by simp [rets, x1]
  have hcount := h.count
  have hfew := h.few
  have hk := (List.getElem?_eq_some_iff.1 he).1
  refine ⟨hM, fun y hy => ?_, h.len, h.size, h.low, fun f hf hA' => h.res f (hsub f hf) hA', fun y hy hyr => ?_, ?_, by rw [hinv]; exact hfew, fun hw => ?_⟩
  · rcases List.mem_append.1 hy with h1 | h1
    · exact h.cmds y h1
    · rw [List.mem_singleton.1 h1, x4, x5, x6]; exact h.cmds (clrEv e) hc.1
  · rcases List.mem_append.1 hy with h1 | h1
    · exact h.retd y h1 hyr
    · rw [List.mem_singleton.1 h1]; exact x7
  · rw [hinv, hret, List.length_append, List.length_take, List.length_drop]; omega
  · obtain ⟨xs, q⟩ := h.app hw
    refine ⟨xs, q.run, fun y hy => ?_, q.retx, q.nd, fun f hf hA' => q.opn f (hsub f hf) hA', fun y hy hyr => ?_, ?_⟩
    · obtain ⟨h1, f, h2, h3⟩ := q.inv y hy
      exact ⟨h1, f, List.mem_append_left _ h2, h3⟩
    · rcases List.mem_append.1 hy with h1 | h1
      · exact q.done y h1 hyr
      · rw [List.mem_singleton.1 h1]
        rcases hx with rfl | ⟨h9, _⟩
        · exact q.opn e hm hA
        · rw [hw] at h9; cases h9
    · refine q.ord.imp_of_mem fun {t u} ht hu htu => ?_
      cases hbf : beforeB (O ++ [x]) u.serial t.serial with
      | false => rfl
      | true =>
        exfalso
        rcases before_snoc hM.right hbf with h1 | h1
        · rw [h1] at htu; cases htu
        · rw [h1.1] at x1; cases x1
theorem run_map2 (g : Ev → Ev) : ∀ (xs : List Ev) (B : List ByteArray), (∀ x ∈ xs, cmdOf (g x) = cmdOf x ∧ ((g x).ret = true → x.ret = true ∧ x.err = (g x).err ∧ x.res = (g x).res)) → (runW B xs).isSome = true → (runW B (xs.map g)).isSome = true
  | [], _, _, _ => rfl
  | x :: xs, B, hg, h => by
    rw [runW] at h
    split at h
    · rename_i hf
      obtain ⟨h1, h2⟩ := hg x (by simp)
      have hf2 : fitR B (g x) := fun hr => by
        obtain ⟨a1, a2, a3⟩ := h2 hr
        rw [h1, ← a2, ← a3]
        exact hf a1
      rw [List.map_cons, runW, if_pos hf2, h1]
      exact run_map2 g xs _ (fun y hy => hg y (List.mem_cons_of_mem _ hy)) h
    · cases h
theorem Applied.lin {B0 B : List ByteArray} {O P xs : List Ev} {A : Int → Bool} (hR : Right O) (hret : ∀ y ∈ O, y.ret = true → y.err = 0) (q : Applied B0 O P A B xs) : LinX B0 O (xs.map (gM O)) := by
  have hg : ∀ x ∈ xs, ∃ e ∈ O, e.ret = false ∧ e.serial = x.serial ∧ gM O x = opOf O e ∧ cmdOf (gM O x) = cmdOf x ∧ ((gM O x).ret = true → x.ret = true ∧ x.err = (gM O x).err ∧ x.res = (gM O x).res) := fun x hx => by
    obtain ⟨_, e, he, her, hes, hec⟩ := q.inv x hx
    have hi := hR.inv_at he her
    have hgx : gM O x = opOf O e := by
      unfold gM
      rw [← hes, hi.2]
    have hk := op_cmd O e
    have hce : cmdOf (opOf O e) = cmdOf e := by
      unfold cmdOf
      rw [hk.1, hk.2.1, hk.2.2.1]
    refine ⟨e, he, her, hes, hgx, by rw [hgx, hce, hec], fun h9 => ⟨q.retx x hx, ?_⟩⟩
    rw [hgx, op_ret her, decide_eq_true_eq] at h9
    obtain ⟨i, y, h1, h2, h3, _⟩ := seek_is h9
    obtain ⟨hyr, hys⟩ := ret_is h3
    have h1' : retI O e.serial = (i : Int) := h1
    have hyx : y = x := by
      have hyi := q.done y (List.mem_of_getElem? h2) hyr
      obtain ⟨a, ha⟩ := List.mem_iff_getElem?.1 hyi
      obtain ⟨b, hb⟩ := List.mem_iff_getElem?.1 hx
      obtain ⟨ha1, ha2⟩ := List.getElem?_eq_some_iff.1 ha
      obtain ⟨hb1, hb2⟩ := List.getElem?_eq_some_iff.1 hb
      have hnd := List.pairwise_iff_getElem.1 q.nd
      rcases Nat.lt_trichotomy a b with h | h | h
      · exact absurd (by rw [ha2, hb2, hys, hes]) (hnd a b ha1 hb1 h)
      · subst h; rw [ha] at hb; exact Option.some.inj hb
      · exact absurd (by rw [ha2, hb2, hys, hes]) (hnd b a hb1 ha1 h)
    have hO : (opOf O e).err = y.err ∧ (opOf O e).res = y.res := by
      unfold opOf
      rw [if_pos h9, h1', Int.toNat_natCast, h2]
      exact ⟨rfl, rfl⟩
    rw [hgx, hO.1, hO.2, hyx]
    exact ⟨rfl, rfl⟩
  have hser : ∀ x ∈ xs, (gM O x).serial = x.serial := fun x hx => by
    obtain ⟨e, _, _, h3, h4, _⟩ := hg x hx
    rw [h4, (op_cmd O e).2.2.2.1, h3]
  refine ⟨fun z hz => ?_, ?_, fun z hz => ?_, fun y hy hmu => ?_, ?_, ?_⟩
  · obtain ⟨x, hx, rfl⟩ := List.mem_map.1 hz
    obtain ⟨e, h1, h2, _, h4, _⟩ := hg x hx
    exact (mem_ops hR).2 ⟨e, h1, h2, h4.symm⟩
  · rw [List.pairwise_map]
    refine q.nd.imp_of_mem fun {a b} ha hb hab => ?_
    rw [hser a ha, hser b hb]; exact hab
  · obtain ⟨x, hx, rfl⟩ := List.mem_map.1 hz
    obtain ⟨e, h1, h2, _, h4, _⟩ := hg x hx
    cases hb : (gM O x).ret with
    | false => simp [skipP, hb]
    | true =>
      rw [h4, op_ret h2, decide_eq_true_eq] at hb
      obtain ⟨i, y, a1, a2, a3, _⟩ := seek_is hb
      have a1' : retI O e.serial = (i : Int) := a1
      have herr : (opOf O e).err = y.err := by
        unfold opOf
        rw [if_pos hb, a1', Int.toNat_natCast, a2]
      have := hret y (List.mem_of_getElem? a2) (ret_is a3).1
      rw [h4]
      simp [skipP, herr, this]
  · obtain ⟨e, he, her, rfl⟩ := (mem_ops hR).1 hy
    have hb : (opOf O e).ret = true := by
      unfold mustP at hmu
      rw [Bool.and_eq_true] at hmu
      exact hmu.1
    rw [op_ret her, decide_eq_true_eq] at hb
    obtain ⟨i, y, a1, a2, a3, _⟩ := seek_is hb
    obtain ⟨hyr, hys⟩ := ret_is a3
    have hyx := q.done y (List.mem_of_getElem? a2) hyr
    refine List.mem_map.2 ⟨y, hyx, ?_⟩
    unfold gM
    rw [hys, (hR.inv_at he her).2]
  · rw [List.pairwise_map]
    refine q.ord.imp_of_mem fun {t u} ht hu htu => ?_
    rw [hser t ht, hser u hu]; exact htu
  · refine run_map2 _ _ _ (fun x hx => ?_) (by rw [q.run]; rfl)
    obtain ⟨e, _, _, _, _, h5, h6⟩ := hg x hx
    exact ⟨h5, h6⟩
theorem LMade.lin {n m : Nat} {wrong : Bool} {O P : List Ev} {A : Int → Bool} {B : List ByteArray} {s : Int} (h : LMade n m wrong O P A B s) (hw : wrong = false) : ∃ xs, LinX (newB (n : Int)) O xs := by
  obtain ⟨xs, q⟩ := h.app hw
  exact ⟨_, q.lin h.made.right h.retd⟩
theorem LMade.ops {n m : Nat} {wrong : Bool} {O P : List Ev} {A : Int → Bool} {B : List ByteArray} {s : Int} (h : LMade n m wrong O P A B s) : 2 * (opsE O O.length).length ≤ m + 5 ∧ O.length ≤ m + 5 := by
  have h1 : (opsE O O.length).length = (invs O).length := by
    rw [ops_right h.made.right _ (Nat.le_refl _), List.take_length, List.length_map]; rfl
  have h2 := inv_ret O
  have h3 := h.count
  have h4 := h.few
  omega
end Go.Proofs.YtnmhnjjehglcfaaGreat.LinMath

/- What the program's history keeps in its maps, and that it comes to the document's answers. Plain mathematics. -/
namespace Go.Proofs.YtnmhnjjehglcfaaGreat.HisMath
theorem take_snoc {α : Type} {L : List α} {j : Nat} {e : α} (h : L[j]? = some e) : L.take (j + 1) = L.take j ++ [e] := by
  rw [List.take_succ_eq_append_getElem (List.getElem?_eq_some_iff.1 h).1, (List.getElem?_eq_some_iff.1 h).2]
/-- the first invocations of the beginning -/
def callsE (L : List Ev) : Nat → List Ev
  | 0 => []
  | m + 1 => match L[m]? with
    | some e => if opsB L m e then callsE L m ++ [e] else callsE L m
    | none => callsE L m
theorem calls_next {L : List Ev} {j : Nat} {e : Ev} (h : L[j]? = some e) : (opsB L j e = true → callsE L (j + 1) = callsE L j ++ [e]) ∧ (opsB L j e = false → callsE L (j + 1) = callsE L j) :=
  ⟨fun hp => by simp [callsE, h, hp], fun hp => by simp [callsE, h, hp]⟩
theorem calls_map (L : List Ev) : ∀ n, (callsE L n).map (opOf L) = opsE L n
  | 0 => rfl
  | n + 1 => by
    have ih := calls_map L n
    cases h : L[n]? with
    | none => simp [callsE, opsE, h, ih]
    | some e =>
      cases hp : opsB L n e
      · simp [callsE, opsE, h, hp, ih]
      · simp [callsE, opsE, h, hp, ih]
theorem calls_len (L : List Ev) : ∀ n, (callsE L n).length ≤ n
  | 0 => Nat.le_refl _
  | n + 1 => by
    have ih := calls_len L n
    cases h : L[n]? with
    | none => simp [callsE, h]; omega
    | some e => cases hp : opsB L n e <;> simp [callsE, h, hp] <;> omega
theorem calls_inv (L : List Ev) : ∀ n, ∀ e ∈ callsE L n, e.ret = false
  | 0 => by simp [callsE]
  | n + 1 => by
    have ih := calls_inv L n
    cases h : L[n]? with
    | none => simpa [callsE, h] using ih
    | some e =>
      cases hp : opsB L n e
      · simpa [callsE, h, hp] using ih
      · intro x hx
        simp only [callsE, h, hp, if_true, List.mem_append, List.mem_singleton] at hx
        rcases hx with hx | rfl
        · exact ih x hx
        · cases hr : x.ret
          · rfl
          · simp [opsB, hr] at hp
/-- the Serials of invocations that have come -/
def SeenI (L : List Ev) (j : Nat) (Sn : List Int) : Prop := ∀ z, z ∈ Sn ↔ ¬ invI (L.take j) z < 0
theorem seen_start (L : List Ev) : SeenI L 0 [] := fun z => by simp [invI, seek]
theorem seen_ask {L : List Ev} {j : Nat} {Sn : List Int} (h : SeenI L j Sn) (z : Int) : decide (z ∈ Sn) = !decide (invI (L.take j) z < 0) := by
  by_cases h1 : invI (L.take j) z < 0
  · have : ¬ z ∈ Sn := fun h2 => (h z).1 h2 h1
    simp [this, h1]
  · have : z ∈ Sn := (h z).2 h1
    simp [this, h1]
theorem inv_snoc {L : List Ev} {x : Ev} {z : Int} : invI (L ++ [x]) z < 0 ↔ invI L z < 0 ∧ ¬ (x.ret = false ∧ x.serial = z) := by
  rw [inv_neg, inv_neg]
  constructor
  · intro h
    refine ⟨fun y hy => h y (List.mem_append_left _ hy), fun ⟨h1, h2⟩ => h x (by simp) h1 h2⟩
  · rintro ⟨h1, h2⟩ y hy hr hs
    rcases List.mem_append.1 hy with hy | hy
    · exact h1 y hy hr hs
    · obtain rfl := List.mem_singleton.1 hy
      exact h2 ⟨hr, hs⟩
theorem seen_same {L : List Ev} {j : Nat} {Sn : List Int} {e : Ev} (h : SeenI L j Sn) (he : L[j]? = some e) (hp : opsB L j e = false) : SeenI L (j + 1) Sn := fun z => by
  rw [h z, take_snoc he, inv_snoc]
  constructor
  · exact fun h1 h2 => h1 h2.1
  · rintro h1 h2
    refine h1 ⟨h2, fun ⟨h3, h4⟩ => ?_⟩
    subst h4
    simp [opsB, h3, h2] at hp
theorem seen_more {L : List Ev} {j : Nat} {Sn : List Int} {e : Ev} (h : SeenI L j Sn) (he : L[j]? = some e) (hp : opsB L j e = true) : SeenI L (j + 1) (e.serial :: Sn) := fun z => by
  have hr : e.ret = false := by cases hr : e.ret <;> simp_all [opsB]
  rw [List.mem_cons, h z, take_snoc he, inv_snoc]
  constructor
  · rintro (rfl | h1)
    · exact fun h2 => h2.2 ⟨hr, rfl⟩
    · exact fun h2 => h1 h2.1
  · intro h1
    by_cases h2 : invI (L.take j) z < 0
    · left
      rcases Classical.em (e.serial = z) with h3 | h3
      · exact h3.symm
      · exact absurd ⟨h2, fun h4 => h3 h4.2⟩ h1
    · exact .inr h2
/-- the first return of a Serial in the beginning -/
def retE (L : List Ev) (j : Nat) (z : Int) : Option Ev := (L.take j).find? (retP z)
theorem ret_start (L : List Ev) (z : Int) : retE L 0 z = none := by simp [retE]
theorem ret_next {L : List Ev} {j : Nat} {e : Ev} (he : L[j]? = some e) (z : Int) : retE L (j + 1) z = if e.ret = true ∧ e.serial = z ∧ retE L j z = none then some e else retE L j z := by
  unfold retE
  rw [take_snoc he, List.find?_append]
  cases h : (L.take j).find? (retP z) with
  | some y => simp
  | none =>
    by_cases h1 : e.ret = true ∧ e.serial = z
    · simp [retP, h1]
    · rw [if_neg (fun h2 => h1 ⟨h2.1, h2.2.1⟩)]
      have : retP z e = false := by
        cases hr : e.ret
        · simp [retP, hr]
        · have : e.serial ≠ z := fun h2 => h1 ⟨hr, h2⟩
          simp [retP, this]
      simp [this]
theorem op_found {L : List Ev} (e : Ev) : opOf L e = match retE L L.length e.serial with
    | some y => { e with ret := true, err := y.err, res := y.res }
    | none => e := by
  unfold opOf retE
  rw [List.take_length]
  by_cases h : 0 ≤ retI L e.serial
  · obtain ⟨i, y, hi, hy, hp, hq⟩ := seek_is h
    rw [if_pos h, show retI L e.serial = (i : Int) from hi, Int.toNat_natCast, hy]
    have : L.find? (retP e.serial) = some y := by
      rw [List.find?_eq_some_iff_getElem]
      obtain ⟨h1, h2⟩ := List.getElem?_eq_some_iff.1 hy
      exact ⟨hp, i, h1, h2, fun j hj => by have := hq j _ hj (List.getElem?_eq_getElem (by omega)); simp [this]⟩
    rw [this]
  · rw [if_neg h]
    have : L.find? (retP e.serial) = none := by
      rw [List.find?_eq_none]
      intro x hx
      have := seek_neg.1 (show seek (retP e.serial) L < 0 from by unfold retI at h; omega) x hx
      simp [this]
    rw [this]
/-- the last event of a Serial in the beginning -/
def lastE (L : List Ev) : Nat → Int → Option Ev
  | 0, _ => none
  | m + 1, z => match L[m]? with
    | some e => if e.serial = z then some e else lastE L m z
    | none => lastE L m z
theorem last_next {L : List Ev} {j : Nat} {e : Ev} (he : L[j]? = some e) : lastE L (j + 1) = fun z => if e.serial = z then some e else lastE L j z := by
  funext z
  simp [lastE, he]
theorem last_none {L : List Ev} {z : Int} : ∀ {j : Nat}, lastE L j z = none → ∀ y ∈ L.take j, y.serial ≠ z
  | 0, _ => by simp
  | j + 1, h => by
    cases he : L[j]? with
    | none =>
      rw [List.take_of_length_le (by rw [List.getElem?_eq_none_iff] at he; omega)]
      have h1 : lastE L j z = none := by simpa [lastE, he] using h
      have := last_none h1
      rw [List.take_of_length_le (by rw [List.getElem?_eq_none_iff] at he; omega)] at this
      exact this
    | some e =>
      have hz : ¬ e.serial = z := fun h1 => by simp [lastE, he, h1] at h
      have h1 : lastE L j z = none := by simpa [lastE, he, hz] using h
      rw [take_snoc he]
      intro y hy
      rcases List.mem_append.1 hy with hy | hy
      · exact last_none h1 y hy
      · obtain rfl := List.mem_singleton.1 hy
        exact hz
theorem last_some {L : List Ev} {z : Int} {y : Ev} : ∀ {j : Nat}, lastE L j z = some y → ∃ p, p < j ∧ L[p]? = some y ∧ y.serial = z ∧ ∀ (q : Nat) (x : Ev), p < q → q < j → L[q]? = some x → x.serial ≠ z
  | 0, h => by simp [lastE] at h
  | j + 1, h => by
    cases he : L[j]? with
    | none =>
      have h1 : lastE L j z = some y := by simpa [lastE, he] using h
      obtain ⟨p, h2, h3, h4, h5⟩ := last_some h1
      refine ⟨p, by omega, h3, h4, fun q x hp hq hx => ?_⟩
      by_cases hqj : q = j
      · subst hqj; rw [he] at hx; cases hx
      · exact h5 q x hp (by omega) hx
    | some e =>
      by_cases hz : e.serial = z
      · have h1 : e = y := by simpa [lastE, he, hz] using h
        subst h1
        exact ⟨j, by omega, he, hz, fun q x hp hq => by omega⟩
      · have h1 : lastE L j z = some y := by simpa [lastE, he, hz] using h
        obtain ⟨p, h2, h3, h4, h5⟩ := last_some h1
        refine ⟨p, by omega, h3, h4, fun q x hp hq hx => ?_⟩
        by_cases hqj : q = j
        · subst hqj; rw [he] at hx; obtain rfl := Option.some.inj hx; exact hz
        · exact h5 q x hp (by omega) hx
/-- whether an event is possible, whatever is before it -/
def possB (x : Ev) : Bool := if x.queue < 0 ∨ 4 ≤ x.queue ∨ x.serial < 0 then false else if x.ret then fitsB x.kind x.err x.res.size else decide (x.err = 0) && decide (x.res.size = 0)
def callOf (x : Ev) : Ev := { x with ret := false, err := 0, res := ⟨#[]⟩ }
def stepB (l : Option Ev) (x : Ev) : Bool := possB x && (l.isSome == x.ret) && (!x.ret || decide (l = some (callOf x)))
theorem size_zero {b : ByteArray} (h : b.size = 0) : b = ⟨#[]⟩ := by
  obtain ⟨d⟩ := b
  have : d.size = 0 := h
  rw [Array.size_eq_zero_iff] at this
  subst this
  rfl
theorem step_right {L : List Ev} {j : Nat} {x : Ev} (h : Right (L.take j)) (hx : L[j]? = some x) : stepB (lastE L j x.serial) x = rightB (L.take j) x := by
  have hlt := (List.getElem?_eq_some_iff.1 hx).1
  have hmem : ∀ (p : Nat) (y : Ev), p < j → L[p]? = some y → (L.take j)[p]? = some y := fun p y hp hy => by rw [List.getElem?_take_of_lt hp]; exact hy
  have hiff : stepB (lastE L j x.serial) x = true ↔ rightB (L.take j) x = true := by
    rw [right_step h]
    cases hr : x.ret
    · constructor
      · intro hs
        simp only [stepB, hr, Bool.not_false, Bool.true_or, Bool.and_true, Bool.and_eq_true] at hs
        obtain ⟨h1, h2⟩ := hs
        left
        have hn : lastE L j x.serial = none := by
          cases hl : lastE L j x.serial
          · rfl
          · rw [hl] at h2; simp at h2
        unfold possB at h1
        split at h1
        · cases h1
        · next hq =>
          rw [hr] at h1
          simp only [Bool.false_eq_true, if_false, Bool.and_eq_true, decide_eq_true_eq] at h1
          exact ⟨hr, by omega, by omega, by omega, last_none hn, h1.1, h1.2⟩
      · rintro (hi | hi)
        · have hn : lastE L j x.serial = none := by
            cases hl : lastE L j x.serial with
            | none => rfl
            | some y =>
              obtain ⟨p, h2, h3, h4, _⟩ := last_some hl
              exact absurd h4 (hi.fresh y (List.mem_of_getElem? (hmem p y h2 h3)))
          have hq : ¬ (x.queue < 0 ∨ 4 ≤ x.queue ∨ x.serial < 0) := by have := hi.q0; have := hi.q4; have := hi.s0; omega
          simp [stepB, possB, hq, hr, hn, hi.err, hi.res]
        · rw [hi.ret] at hr; cases hr
    · constructor
      · intro hs
        simp only [stepB, hr, Bool.not_true, Bool.false_or, Bool.and_eq_true, decide_eq_true_eq] at hs
        obtain ⟨⟨h1, _⟩, h2⟩ := hs
        right
        obtain ⟨p, hp, hy, h4, h5⟩ := last_some h2
        unfold possB at h1
        split at h1
        · cases h1
        · next hq =>
          refine ⟨hr, by omega, by omega, by omega, ⟨callOf x, List.mem_of_getElem? (hmem p _ hp hy), rfl, rfl, rfl, rfl, rfl, rfl⟩, ?_, h1⟩
          intro y hy' hyr hys
          obtain ⟨q, hq'⟩ := List.mem_iff_getElem?.1 hy'
          obtain ⟨p', c, hp', hc, hcr, hcs⟩ := h.ahead q y hq' hyr
          have hqj : q < j := by
            have := (List.getElem?_eq_some_iff.1 hq').1
            rw [List.length_take] at this
            omega
          have := h.one p' p c (callOf x) hc (hmem p _ hp hy) hcr rfl (by rw [hcs, hys]; rfl)
          subst this
          have hLq : L[q]? = some y := by rw [List.getElem?_take_of_lt hqj] at hq'; exact hq'
          exact h5 q y (by omega) hqj hLq hys
      · rintro (hi | hi)
        · rw [hi.ret] at hr; cases hr
        · have hq : ¬ (x.queue < 0 ∨ 4 ≤ x.queue ∨ x.serial < 0) := by have := hi.q0; have := hi.q4; have := hi.s0; omega
          obtain ⟨y, hy, yr, ys, yq, yk, yb, yd⟩ := hi.one
          obtain ⟨q, hq'⟩ := List.mem_iff_getElem?.1 hy
          have hqj : q < j := by
            have := (List.getElem?_eq_some_iff.1 hq').1
            rw [List.length_take] at this
            omega
          have hl : lastE L j x.serial = some (callOf x) := by
            cases hl : lastE L j x.serial with
            | none => exact absurd ys (last_none hl y hy)
            | some z =>
              obtain ⟨p, hp, hz, hzs, hafter⟩ := last_some hl
              have hzm := hmem p z hp hz
              have hzr : z.ret = false := by
                cases hzr : z.ret
                · rfl
                · exact absurd hzs (hi.open' z (List.mem_of_getElem? hzm) hzr)
              have hpq := h.one p q z y hzm hq' hzr yr (hzs.trans ys.symm)
              subst hpq
              rw [hzm] at hq'
              obtain rfl := Option.some.inj hq'
              have hcl := h.clean z hy hzr
              have hres := size_zero hcl.2
              congr 1
              obtain ⟨zr, zq, zs, zk, zb, zd, ze, zx⟩ := z
              simp only at yr ys yq yk yb yd hcl hres
              simp only [callOf]
              rw [yr, ys, yq, yk, yb, yd, hcl.1, hres]
          simp [stepB, possB, hq, hr, hl, hi.fits]
  cases h1 : stepB (lastE L j x.serial) x <;> cases h2 : rightB (L.take j) x <;> simp_all
theorem right_start (L : List Ev) : Right (L.take 0) := by rw [List.take_zero]; exact .nil
theorem right_more {L : List Ev} {j : Nat} {x : Ev} (h : Right (L.take j)) (hx : L[j]? = some x) (hr : rightB (L.take j) x = true) : Right (L.take (j + 1)) := by
  rw [take_snoc hx]
  rcases (right_step h x).1 hr with h1 | h1
  · exact .inv h h1
  · exact .ret h h1
theorem right_less {L : List Ev} {j : Nat} {x : Ev} (hx : L[j]? = some x) (hr : rightB (L.take j) x = false) : rightsB L = false :=
  rights_bad (List.getElem?_eq_some_iff.1 hx).1 (by simp [rightAt, hx, hr])
theorem right_all {L : List Ev} {j : Nat} (h : Right (L.take j)) (hj : j = L.length) : rightsB L = true := by
  subst hj
  rw [List.take_length] at h
  exact (rights_iff L).2 h
end Go.Proofs.YtnmhnjjehglcfaaGreat.HisMath
