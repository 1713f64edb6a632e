/- Texts that belong together, part 14. -/
import Derived.Test.YtnmhnjjehglcfaaGreatPack3
import Derived.Test.YtnmhnjjehglcfaaGreatPack13

/- Right histories: the order of their operations, what is pending, the parts of a block. Plain mathematics. -/
namespace Go.Proofs.YtnmhnjjehglcfaaGreat.HisMath
theorem ret_is {x : Ev} {s : Int} (h : retP s x = true) : x.ret = true ∧ x.serial = s := by
  simp only [retP, Bool.and_eq_true, decide_eq_true_eq] at h
  exact h
theorem inv_is {x : Ev} {s : Int} (h : invP s x = true) : x.ret = false ∧ x.serial = s := by
  simp only [invP, Bool.and_eq_true, decide_eq_true_eq] at h
  exact ⟨by cases hq : x.ret <;> simp_all, h.2⟩
/-- the invocation of what was returned stands before its return -/
theorem Right.ahead {L : List Ev} (h : Right L) : ∀ (i : Nat) (x : Ev), L[i]? = some x → x.ret = true → ∃ (p : Nat) (y : Ev), p < i ∧ L[p]? = some y ∧ y.ret = false ∧ y.serial = x.serial := by
  induction h with
  | nil => intro i x hi; simp at hi
  | @inv L x hL hx ih =>
    intro i a hi ra
    rcases Nat.lt_trichotomy i L.length with h1 | h1 | h1
    · rw [List.getElem?_append_left h1] at hi
      obtain ⟨p, y, h2, h3, h4⟩ := ih i a hi ra
      exact ⟨p, y, h2, by rw [List.getElem?_append_left (by omega)]; exact h3, h4⟩
    · subst h1
      rw [List.getElem?_append_right (Nat.le_refl _), Nat.sub_self] at hi
      obtain rfl := Option.some.inj (show some x = some a from hi)
      rw [hx.ret] at ra; cases ra
    · rw [List.getElem?_eq_none (by simp; omega)] at hi; cases hi
  | @ret L x hL hx ih =>
    intro i a hi ra
    rcases Nat.lt_trichotomy i L.length with h1 | h1 | h1
    · rw [List.getElem?_append_left h1] at hi
      obtain ⟨p, y, h2, h3, h4⟩ := ih i a hi ra
      exact ⟨p, y, h2, by rw [List.getElem?_append_left (by omega)]; exact h3, h4⟩
    · subst h1
      rw [List.getElem?_append_right (Nat.le_refl _), Nat.sub_self] at hi
      obtain rfl := Option.some.inj (show some x = some a from hi)
      obtain ⟨y, hy, h4, h5, _⟩ := hx.one
      obtain ⟨p, hp⟩ := List.mem_iff_getElem?.1 hy
      have hpl := (List.getElem?_eq_some_iff.1 hp).1
      exact ⟨p, y, hpl, by rw [List.getElem?_append_left hpl]; exact hp, h4, h5⟩
    · rw [List.getElem?_eq_none (by simp; omega)] at hi; cases hi
theorem Right.inv_before {L : List Ev} (h : Right L) {s : Int} (h0 : 0 ≤ retI L s) : 0 ≤ invI L s ∧ invI L s < retI L s := by
  obtain ⟨i, x, hi, hx, hp, _⟩ := seek_is h0
  obtain ⟨hr, hs⟩ := ret_is hp
  obtain ⟨p, y, hpi, hy, hyr, hys⟩ := h.ahead i x hx hr
  have h1 := h.inv_at (List.mem_of_getElem? hy) hyr
  rw [hys, hs] at h1
  obtain ⟨j, z, hj, hz, hpz, _⟩ := seek_is h1.1
  obtain ⟨hzr, hzs⟩ := inv_is hpz
  have := h.one j p z y hz hy hzr hyr (by rw [hzs, hys, hs])
  have e1 : invI L s = (j : Int) := hj
  have e2 : retI L s = (i : Int) := hi
  omega
theorem before_irr {L : List Ev} (h : Right L) (s : Int) : beforeB L s s = false := by
  cases hb : beforeB L s s with
  | false => rfl
  | true =>
    simp only [beforeB, Bool.and_eq_true, decide_eq_true_eq] at hb
    have := (h.inv_before hb.1.1).2
    omega
theorem before_trans {L : List Ev} (h : Right L) {s t u : Int} (h1 : beforeB L s t = true) (h2 : beforeB L t u = true) : beforeB L s u = true := by
  simp only [beforeB, Bool.and_eq_true, decide_eq_true_eq] at h1 h2 ⊢
  have := (h.inv_before h2.1.1).2
  omega
/-- an operation is pending -/
def openB (L : List Ev) (e : Ev) : Bool := !e.ret && decide (retI L e.serial < 0)
theorem right_fresh {L : List Ev} (h : Right L) {j : Nat} {e : Ev} (he : L[j]? = some e) (hr : e.ret = false) : invI (L.take j) e.serial < 0 := by
  rw [inv_neg]
  intro y hy hyr hs
  obtain ⟨i, hi⟩ := List.mem_iff_getElem?.1 hy
  have hil := (List.getElem?_eq_some_iff.1 hi).1
  rw [List.length_take] at hil
  rw [List.getElem?_take, if_pos (by omega)] at hi
  have := h.one i j y e hi he hyr hr hs
  omega
theorem ops_right {L : List Ev} (h : Right L) : ∀ n, n ≤ L.length → opsE L n = ((L.take n).filter (fun e => !e.ret)).map (opOf L)
  | 0, _ => by simp [opsE]
  | n + 1, hn => by
    have he : L[n]? = some L[n] := List.getElem?_eq_getElem (by omega)
    have h1 : L.take (n + 1) = L.take n ++ [L[n]] := by rw [List.take_succ_eq_append_getElem (by omega)]
    rw [opsE, he, h1, List.filter_append, List.map_append, ← ops_right h n (by omega)]
    cases hr : L[n].ret
    · have hf := right_fresh h he hr
      have : opsB L n L[n] = true := by simp [opsB, hr, hf]
      simp only [this, if_true]
      simp [hr]
    · have : opsB L n L[n] = false := by simp [opsB, hr]
      simp [this, hr]
theorem op_open {L : List Ev} {e : Ev} (hr : e.ret = false) : (opOf L e).ret = !openB L e ∧ (opOf L e).serial = e.serial := by
  unfold opOf openB
  rw [hr]
  by_cases h : 0 ≤ retI L e.serial
  · obtain ⟨i, y, hi, hy, _⟩ := seek_is h
    rw [if_pos h, show retI L e.serial = (i : Int) from hi, Int.toNat_natCast, hy]
    simp
  · rw [if_neg h]
    simp [hr]; omega
def invs (L : List Ev) : List Ev := L.filter (fun e => !e.ret)
def rets (L : List Ev) : List Ev := L.filter (fun e => e.ret)
theorem right_apart {L : List Ev} (h : Right L) : L.Pairwise (fun x y => ¬ (x.ret = false ∧ y.ret = false ∧ x.serial = y.serial)) := by
  rw [List.pairwise_iff_getElem]
  intro i j hi hj hij ⟨h1, h2, h3⟩
  have := h.one i j L[i] L[j] (List.getElem?_eq_getElem hi) (List.getElem?_eq_getElem hj) h1 h2 h3
  omega
/-- a part of a right history that is chosen by the commands is right -/
theorem right_filter {L : List Ev} (h : Right L) {p : Ev → Bool} (hp : ∀ x y : Ev, x.kind = y.kind → x.block = y.block → p x = p y) : Right (L.filter p) := by
  induction h with
  | nil => exact .nil
  | @inv L x hL hx ih =>
    rw [List.filter_append]
    cases hq : p x
    · rw [List.filter_cons_of_neg (by simp [hq]), List.filter_nil, List.append_nil]; exact ih
    · rw [List.filter_cons_of_pos hq, List.filter_nil]
      exact .inv ih ⟨hx.ret, hx.q0, hx.q4, hx.s0, fun y hy => hx.fresh y (List.mem_filter.1 hy).1, hx.err, hx.res⟩
  | @ret L x hL hx ih =>
    rw [List.filter_append]
    cases hq : p x
    · rw [List.filter_cons_of_neg (by simp [hq]), List.filter_nil, List.append_nil]; exact ih
    · rw [List.filter_cons_of_pos hq, List.filter_nil]
      obtain ⟨y, hy, h1, h2, h3, h4, h5, h6⟩ := hx.one
      exact .ret ih ⟨hx.ret, hx.q0, hx.q4, hx.s0, ⟨y, List.mem_filter.2 ⟨hy, by rw [hp y x h4 h5, hq]⟩, h1, h2, h3, h4, h5, h6⟩, fun z hz => hx.open' z (List.mem_filter.1 hz).1, hx.fits⟩
theorem right_rest {L : List Ev} (h : Right L) (b : Int) : Right (restE L b) :=
  right_filter h fun x y h1 h2 => by simp [restB, h1, h2]
end Go.Proofs.YtnmhnjjehglcfaaGreat.HisMath

/- The search for linearizations of one block, as paths of operations; each linearization is one. Plain mathematics. -/
namespace Go.Proofs.YtnmhnjjehglcfaaGreat.LinMath
open HisMath ModMath
/-- the value behind an operation, if its result fits -/
def nextV (x : Ev) (v : ByteArray) : Option ByteArray :=
  if x.ret = true ∧ ¬ ((applyR [v] (cmdOf x)).err = x.err ∧ (applyR [v] (cmdOf x)).data = x.res) then none else (applyB [v] (cmdOf x))[0]?
def mustP (x : Ev) : Bool := x.ret && decide (x.err = 0)
def skipP (x : Ev) : Bool := x.ret && !decide (x.err = 0)
/-- may operation i be the next one, when those of the set D have happened -/
def canP (L O : List Ev) (D : Nat) (i : Nat) (x : Ev) : Prop :=
  D.testBit i = false ∧ skipP x = false ∧ ∀ (k : Nat) (y : Ev), O[k]? = some y → mustP y = true → beforeB L y.serial x.serial = true → D.testBit k = true
inductive Path (L O : List Ev) : Nat → ByteArray → List Int → Nat → ByteArray → Prop
  | nil (D : Nat) (v : ByteArray) : Path L O D v [] D v
  | cons {D : Nat} {v : ByteArray} {i : Nat} {x : Ev} {v' : ByteArray} {l : List Int} {D' : Nat} {v'' : ByteArray} (hx : O[i]? = some x) (hc : canP L O D i x) (hn : nextV x v = some v') (h : Path L O (D ||| 2 ^ i) v' l D' v'') : Path L O D v (x.serial :: l) D' v''
def goalP (O : List Ev) (D : Nat) : Prop := ∀ (k : Nat) (y : Ev), O[k]? = some y → mustP y = true → D.testBit k = true
theorem bit_or {D i k : Nat} : (D ||| 2 ^ i).testBit k = (D.testBit k || decide (i = k)) := by
  rw [Nat.testBit_or, Nat.testBit_two_pow]
theorem Path.mono {L O : List Ev} {D D' : Nat} {v v' : ByteArray} {l : List Int} (h : Path L O D v l D' v') {k : Nat} (hk : D.testBit k = true) : D'.testBit k = true := by
  induction h with
  | nil D v => exact hk
  | cons hx hc hn hp ih => exact ih (by rw [bit_or, hk]; rfl)
theorem Path.mem {L O : List Ev} {D D' : Nat} {v v' : ByteArray} {l : List Int} (h : Path L O D v l D' v') {k : Nat} (hk : D'.testBit k = true) (hd : D.testBit k = false) : ∃ y, O[k]? = some y ∧ y.serial ∈ l := by
  induction h with
  | nil D v => rw [hd] at hk; cases hk
  | @cons D v i x v' l D' v'' hx hc hn hp ih =>
    by_cases hik : i = k
    · subst hik; exact ⟨x, hx, List.mem_cons_self⟩
    · obtain ⟨y, hy, hm⟩ := ih hk (by rw [bit_or, hd, decide_eq_false hik]; rfl)
      exact ⟨y, hy, List.mem_cons_of_mem _ hm⟩
theorem Path.has {L O : List Ev} {D D' : Nat} {v v' : ByteArray} {l : List Int} (h : Path L O D v l D' v') {s : Int} (hs : s ∈ l) : ∃ k y, O[k]? = some y ∧ y.serial = s ∧ D'.testBit k = true := by
  induction h with
  | nil D v => cases hs
  | @cons D v i x v' l D' v'' hx hc hn hp ih =>
    rcases List.mem_cons.1 hs with h2 | h2
    · exact ⟨i, x, hx, h2.symm, hp.mono (by rw [bit_or]; simp)⟩
    · exact ih h2
theorem Path.split {L O : List Ev} {s : Int} {D D' : Nat} {v v' : ByteArray} : ∀ {l : List Int}, Path L O D v (l ++ [s]) D' v' → ∃ D1 v1 i x, Path L O D v l D1 v1 ∧ O[i]? = some x ∧ x.serial = s ∧ canP L O D1 i x ∧ nextV x v1 = some v' ∧ D' = D1 ||| 2 ^ i := by
  intro l h
  generalize hm : l ++ [s] = m at h
  induction h generalizing l with
  | nil D v => simp at hm
  | @cons D v i x v' l' D' v'' hx hc hn hp ih =>
    cases l with
    | nil =>
      simp only [List.nil_append, List.cons.injEq] at hm
      obtain ⟨rfl, rfl⟩ := hm
      cases hp with
      | nil => exact ⟨D, v, i, x, .nil _ _, hx, rfl, hc, hn, rfl⟩
    | cons a l =>
      simp only [List.cons_append, List.cons.injEq] at hm
      obtain ⟨rfl, rfl⟩ := hm
      obtain ⟨D1, v1, j, y, h1, h2, h3, h4, h5, h6⟩ := ih rfl
      exact ⟨D1, v1, j, y, .cons hx hc hn h1, h2, h3, h4, h5, h6⟩
theorem blk_prefix {B : List ByteArray} {L : List Ev} {l m : List Int} : ∀ {i : Nat}, i ≤ l.length → blkAt B L (l ++ m) i = blkAt B L l i
  | 0, _ => rfl
  | i + 1, h => by
    have h1 := blk_prefix (B := B) (L := L) (l := l) (m := m) (i := i) (by omega)
    rw [blkAt, blkAt, h1, List.getElem?_append_left (by omega), List.take_append_of_le_length (by omega)]
/-- what is known of the operations of a right history -/
structure Opn (L O : List Ev) : Prop where
  one : ∀ (i j : Nat) (x y : Ev), O[i]? = some x → O[j]? = some y → x.serial = y.serial → i = j
  ret : ∀ (k : Nat) (y : Ev) (t : Int), O[k]? = some y → beforeB L y.serial t = true → y.ret = true
theorem apply_one (v : ByteArray) (x : Cmd) : ∃ v', applyB [v] x = [v'] := by
  have h := apply_len [v] x
  match hq : applyB [v] x, h with
  | [v'], _ => exact ⟨v', rfl⟩
theorem next_is {x : Ev} {v v' : ByteArray} : nextV x v = some v' ↔ applyB [v] (cmdOf x) = [v'] ∧ (x.ret = true → (applyR [v] (cmdOf x)).err = x.err ∧ (applyR [v] (cmdOf x)).data = x.res) := by
  obtain ⟨u, hu⟩ := apply_one v (cmdOf x)
  unfold nextV
  rw [hu]
  constructor
  · intro h
    split at h
    · cases h
    · rename_i hc
      simp at h
      refine ⟨by rw [h], fun hr => Classical.byContradiction fun hn => hc ⟨hr, hn⟩⟩
  · rintro ⟨h1, h2⟩
    rw [if_neg (fun hc => hc.2 (h2 hc.1))]
    simpa using h1
theorem op_no {O : List Ev} (hu : ∀ (i j : Nat) (x y : Ev), O[i]? = some x → O[j]? = some y → x.serial = y.serial → i = j) {i : Nat} {x : Ev} (hx : O[i]? = some x) : opNo O x.serial = some x :=
  op_found hx rfl fun j y hj hy hs => by have := hu j i y x hy hx hs; omega
theorem step_iff {L : List Ev} {Bi : List ByteArray} {done : List Int} {x : Ev} : stepB L Bi done x = true ↔ ¬ x.serial ∈ done ∧ skipP x = false ∧ (∀ t ∈ done, beforeB L x.serial t = false) ∧ (x.ret = true → (applyR Bi (cmdOf x)).err = x.err ∧ (applyR Bi (cmdOf x)).data = x.res) := by
  unfold stepB skipP
  simp only [Bool.and_eq_true, Bool.not_eq_true', decide_eq_false_iff_not, Bool.or_eq_true, decide_eq_true_eq, List.any_eq_false]
  constructor
  · rintro ⟨⟨⟨h1, h2⟩, h3⟩, h4⟩
    refine ⟨h1, h2, fun t ht => by have := h3 t ht; simpa using this, fun hr => ?_⟩
    rcases h4 with h4 | h4
    · rw [hr] at h4; cases h4
    · exact h4
  · rintro ⟨h1, h2, h3, h4⟩
    refine ⟨⟨⟨h1, h2⟩, fun t ht => by rw [h3 t ht]; simp⟩, ?_⟩
    cases hr : x.ret
    · exact .inl rfl
    · exact .inr (h4 hr)
/-- the operations of a right history -/
theorem right_opn {L : List Ev} (h : Right L) : Opn L (opsE L L.length) := by
  rw [ops_right h _ (Nat.le_refl _), List.take_length]
  have hs : ∀ i x, ((L.filter (fun e => !e.ret)).map (opOf L))[i]? = some x → ∃ e, (L.filter (fun e => !e.ret))[i]? = some e ∧ e.ret = false ∧ x = opOf L e := fun i x hx => by
    rw [List.getElem?_map] at hx
    cases hq : (L.filter (fun e => !e.ret))[i]? with
    | none => rw [hq] at hx; cases hx
    | some e =>
      rw [hq] at hx
      have hm := (List.mem_filter.1 (List.mem_of_getElem? hq)).2
      exact ⟨e, hq, by cases hr : e.ret <;> simp_all, (Option.some.inj hx).symm⟩
  have hap : (L.filter (fun e => !e.ret)).Pairwise (fun x y => ¬ (x.ret = false ∧ y.ret = false ∧ x.serial = y.serial)) := (right_apart h).sublist List.filter_sublist
  refine ⟨fun i j x y hx hy hxy => ?_, fun k y t hy hb => ?_⟩
  · obtain ⟨e, he, her, rfl⟩ := hs i x hx
    obtain ⟨f, hf, hfr, rfl⟩ := hs j y hy
    rw [(op_open (L := L) her).2, (op_open (L := L) hfr).2] at hxy
    rw [List.pairwise_iff_getElem] at hap
    obtain ⟨hil, hie⟩ := List.getElem?_eq_some_iff.1 he
    obtain ⟨hjl, hje⟩ := List.getElem?_eq_some_iff.1 hf
    rcases Nat.lt_trichotomy i j with h1 | h1 | h1
    · exact absurd ⟨by rw [hie]; exact her, by rw [hje]; exact hfr, by rw [hie, hje]; exact hxy⟩ (hap i j hil hjl h1)
    · exact h1
    · exact absurd ⟨by rw [hje]; exact hfr, by rw [hie]; exact her, by rw [hie, hje]; exact hxy.symm⟩ (hap j i hjl hil h1)
  · obtain ⟨e, he, her, rfl⟩ := hs k y hy
    obtain ⟨h1, h2⟩ := op_open (L := L) her
    rw [h2] at hb
    rw [h1]
    simp only [beforeB, Bool.and_eq_true, decide_eq_true_eq] at hb
    have h3 : decide (retI L e.serial < 0) = false := decide_eq_false (by omega)
    unfold openB
    rw [her, h3]
    rfl
end Go.Proofs.YtnmhnjjehglcfaaGreat.LinMath

/- The walk of the document's Same of lists of events, for any lists. -/
namespace Go.Proofs.YtnmhnjjehglcfaaGreat.Ents
open Go.RowKit Plan HisMath Rws Env
theorem bl_eq (a b : ByteArray) : (a.toList = b.toList) = (a = b) := by
  rw [Lib.toList_data, Lib.toList_data]
  apply propext
  constructor
  · intro h
    obtain ⟨⟨a⟩⟩ := a; obtain ⟨⟨b⟩⟩ := b
    have h3 : a = b := h
    rw [h3]
  · intro h; rw [h]
theorem ev_neq_run (x y : Ev) (w : World) : (binOp .neq 55 (evV x) (evV y)).run Tryz.prog w = .ok (.bool (!decide (x = y))) w := by
  obtain ⟨xr, xq, xs, xk, xb, xd, xe, xx⟩ := x
  obtain ⟨yr, yq, ys, yk, yb, yd, ye, yx⟩ := y
  go_simp
  simp only [bl_eq]
  repeat' split
  all_goals simp_all
end Go.Proofs.YtnmhnjjehglcfaaGreat.Ents

/- The walks of the document's with, New and Apply of blocks. -/
namespace Go.Proofs.YtnmhnjjehglcfaaGreat.Ents
open Go.RowKit Plan ModMath CmdMath Rws Env LayMath
/-- what a function that gives a list of strings leaves -/
def SPost (w : World) (F : Nat → Prop) (L : List ByteArray) (r : Ending) (w' : World) : Prop :=
  ∃ a n c, r = .returned (.slice a n c) ∧ SList w' (fun b => F b ∨ w.heap.size ≤ b) a n c L ∧ Below w.heap.size w w'
def APost (w : World) (F : Nat → Prop) (L : List ByteArray) (x : Res) (r : Ending) (w' : World) : Prop :=
  ∃ a n c, r = .returned (.tuple #[.slice a n c, resV x]) ∧ SList w' (fun b => F b ∨ w.heap.size ≤ b) a n c L ∧ Below w.heap.size w w'
set_option maxHeartbeats 8000000 in
set_option maxRecDepth 20000 in
theorem refBNew_any (n : Int) (w : World) :
    Calls Tryz.prog 16 #[.int .i64 n] w (SPost w (fun _ => False) (newB n)) := by
  have HZ := Lib.hid (fun W => refZero_any W)
  unfold SPost newB
  by_cases h : n < 1 ∨ 128 < n
  · rw [if_pos h]
    clear HZ
    rcases h with h | h
    · go_enter Tryz.func16, Tryz.ntmps16
      go_wp2_with fail
      go_ret
      exact ⟨_, _, _, rfl, TList.nil _ _, Below.refl _ _⟩
    · have h2 : ¬ n < 1 := by omega
      go_enter Tryz.func16, Tryz.ntmps16
      go_wp2_with fail
      go_ret
      exact ⟨_, _, _, rfl, TList.nil _ _, Below.refl _ _⟩
  · rw [if_neg h]
    obtain ⟨m, rfl⟩ : ∃ m : Nat, n = (m : Int) := ⟨n.toNat, by omega⟩
    have h1 : ¬ (m : Int) < 1 := by omega
    have h2 : ¬ (128 : Int) < (m : Int) := by omega
    have hm : m ≤ 128 := by omega
    have hm1 : 1 ≤ m := by omega
    rw [Int.toNat_natCast]
    have K : Env w (w.alloc (.cells (madeCells #[.string ⟨#[]⟩] m) 9)) (Env.lst SR (Env.slv w.heap.size m m) m (List.replicate m ⟨#[]⟩) :: _) := (Env.start w).made (R := SR) ⟨#[]⟩ m (by unfold maxLen; omega) (made_all rfl _ rfl m).1 (made_all rfl ⟨#[]⟩ rfl m).2
    have hmk := fun W => run_make_row' (P := Tryz.prog) 22 9 (.string ⟨#[]⟩) 16 Tryz.underlying22 (show (Tryz.prog.info? 9).map (fun i => (i.zero, i.size, i.bytes)) = some (some (.string ⟨#[]⟩), 1, 16) by kernel_rfl) rfl .i64 .i64 m (by omega) (by omega) W
    clear h
    go_enter Tryz.func16, Tryz.ntmps16
    go_wp2_with fail
    generalize hw0 : w.alloc (.cells (madeCells #[.string ⟨#[]⟩] m) 9) = w0 at *
    clear hw0 hmk
    generalize hG : w.heap.size = G at *
    go_loopw [4] (fun x wr => ∃ j : Nat, x = .int .i64 (j : Int) ∧ j ≤ m ∧ Env w wr [Env.lst SR (Env.slv G m m) m (List.replicate j zeroC ++ List.replicate (m - j) ⟨#[]⟩)]) (fun x _ => m - (intOf x).toNat)
    case atStart => exact ⟨0, rfl, by omega, K⟩
    case round =>
      clear K
      obtain ⟨j, rfl, hj, K⟩ := hrel
      by_cases hlt : j < m
      · have hjI : (j : Int) < (m : Int) := by omega
        have hat : (List.replicate j zeroC ++ List.replicate (m - j) (⟨#[]⟩ : ByteArray))[j]? = some ⟨#[]⟩ := by
          rw [List.getElem?_append_right (by simp), List.length_replicate, Nat.sub_self, List.getElem?_replicate, if_pos (by omega)]
        have hset : (List.replicate j zeroC ++ List.replicate (m - j) (⟨#[]⟩ : ByteArray)).set j zeroC = List.replicate (j + 1) zeroC ++ List.replicate (m - (j + 1)) ⟨#[]⟩ := by
          rw [List.set_append_right _ _ (by simp), List.length_replicate, Nat.sub_self, show m - j = (m - (j + 1)) + 1 by omega, List.replicate_succ (n := m - (j + 1)), List.set_cons_zero, List.replicate_succ' (n := j), List.append_assoc]
          rfl
        go_wp2_with (first
          | (go_at_call 45; ((with_reducible refine (HZ.out _).mono ?_); rintro r9 w1 ⟨rfl, hb⟩; replace K := K.on hb; clear hb; obtain ⟨hc1, hf1⟩ := K.own1 srOk rfl 0 rfl hat (u := .string ⟨#[]⟩) rfl; have K8 := (K.set1 srOk rfl 0 rfl hlt zeroC (u := .string zeroC) rfl).1; rw [hset] at K8; simp only [List.set] at K8)))
        generalize World.setCell w1 _ _ = w2 at *
        go_roundw
        case rel => exact ⟨j + 1, by go_num, by omega, K8⟩
        case measure => simp [intOf]; omega
      · obtain rfl : j = m := by omega
        rw [Nat.sub_self, List.replicate_zero, List.append_nil] at K
        have hjI : ¬ (j : Int) < (j : Int) := by omega
        go_wp2_with fail
        go_ret
        exact ⟨_, _, _, rfl, (K.list srOk 0 rfl).mono (fun b _ h => by first | omega | exact .inr (by omega)), by rw [← hG]; exact K.hb⟩
end Go.Proofs.YtnmhnjjehglcfaaGreat.Ents

/- The walks of the document's Sizes, has and operation. -/
namespace Go.Proofs.YtnmhnjjehglcfaaGreat.Ents
open Go.RowKit Plan HisMath LinMath ModMath Rws Env LayMath
set_option maxHeartbeats 8000000 in
set_option maxRecDepth 20000 in
theorem refSizes_any (F G : Nat → Prop) (B : List ByteArray) (L : List Ev) (a b : Option Addr) (n c m d : Nat) (w : World) (hl : SList w F a n c B) (hk : VList w G b m d L) :
    Calls Tryz.prog 40 #[.slice a n c, .slice b m d] w fun r w' => r = .returned (.int .i64 (sizesE B L)) ∧ Below w.heap.size w w' := by
  have hlen := hl.length
  obtain ⟨hcp, hcm⟩ := hl.cap
  unfold maxLen at hcm
  have hb := Below.refl w.heap.size w
  have HC := Lib.hid (fun W (h : Below w.heap.size w W) => refHCheck_any _ L (n : Int) b m d W (hk.same h))
  have HAT := Lib.hid (fun W (h : Below w.heap.size w W) i (hi : i < n) => str_at (hl.same h) i hi)
  have HERR := Lib.hid (fun h => @sizes_err B L h)
  have HBAD := Lib.hid (fun i s h hs hz => @sizes_bad B L i s h hs hz)
  have HGOOD := Lib.hid (fun h hs => @sizes_good B L h hs)
  rw [hlen] at HERR HBAD HGOOD
  generalize sizesE B L = R at *
  generalize checkE (n : Int) L = E at *
  clear hl hk hlen
  go_enter Tryz.func40, Tryz.ntmps40
  go_upto_region 2 with (first
    | (go_at_call 74; ((with_reducible refine (HC.out _ hb).mono ?_); rintro r9 w9 ⟨rfl, h9⟩; replace hb := hb.trans (h9.mono hb.size); clear h9)))
  clear HC
  by_cases hE : E = 0
  · subst hE
    have HB := Lib.hid (fun i s hs hz => HBAD.out i s rfl hs hz)
    have HG := Lib.hid (fun hs => HGOOD.out rfl hs)
    clear HERR HBAD HGOOD
    go_wp2_with fail
    go_loopw [6] (fun x wr => ∃ j : Nat, x = .int .i64 (j : Int) ∧ j ≤ n ∧ RowKit.Hid (∀ i s, i < j → B[i]? = some s → s.size = 16) ∧ Below w.heap.size w wr) (fun x _ => n - (intOf x).toNat)
    case atStart => exact ⟨0, rfl, by omega, Lib.hid (fun i _ hi => absurd hi (Nat.not_lt_zero _)), hb⟩
    case round =>
      clear hb
      obtain ⟨j, rfl, hj, hall, hb⟩ := hrel
      by_cases hlt : j < n
      · obtain ⟨x, s, rfl, hs, hc⟩ := HAT.out wr hb j hlt
        have hjI : (j : Int) < (n : Int) := by omega
        by_cases hz : s.size = 16
        · have d1 : ((s.size : Int) == 16) = true := by simp [hz]
          have d2 : (s.size == 16) = true := by simp [hz]
          have d3 : ((s.size : Int) != 16) = false := by simp [hz]
          have d4 : (s.size != 16) = false := by simp [hz]
          have HN := Lib.hid (fun i t (hi : i < j + 1) (ht : B[i]? = some t) => (show t.size = 16 from by
            rcases Nat.lt_or_ge i j with h9 | h9
            · exact hall.out i t h9 ht
            · obtain rfl : i = j := by omega
              rw [hs] at ht; cases ht; exact hz))
          clear hz hs
          go_wp2_with fail
          go_roundw
          case rel => exact ⟨j + 1, by go_num, by omega, HN, hb⟩
          case measure => simp [intOf]; omega
        · have HX := Lib.hid (HB.out j s hs hz)
          have d3 : ((s.size : Int) != 16) = true := by simp; omega
          have d4 : (s.size != 16) = true := by simp [hz]
          clear hz hs
          go_wp2_with fail
          go_ret
          exact ⟨r_i HX.out.symm, hb⟩
      · obtain rfl : j = n := by omega
        have hjI : ¬ (j : Int) < (j : Int) := by omega
        have HX := Lib.hid (HG.out (fun i s hi hs => hall.out i s hi hs))
        go_wp2_with fail
        go_ret
        exact ⟨r_i HX.out.symm, hb⟩
  · have d1 : (E == 0) = false := by simpa using hE
    have d2 : (E != 0) = true := by simpa using hE
    have HX := Lib.hid (HERR.out hE)
    clear HERR HBAD HGOOD hE
    go_wp2_with fail
    go_ret
    exact ⟨r_i HX.out.symm, hb⟩
end Go.Proofs.YtnmhnjjehglcfaaGreat.Ents
