/- Texts that belong together, part 21. -/
import Derived.Test.YtnmhnjjehglcfaaGreatPack20

/- When a history can be linearized, block by block, as the document's Can asks it. Plain mathematics. -/
namespace Go.Proofs.YtnmhnjjehglcfaaGreat.LinMath
open HisMath ModMath
def smallP (B : List ByteArray) (L : List Ev) : Prop := ∀ i : Nat, i < B.length → (opsE (aloneE L (i : Int)) (aloneE L (i : Int)).length).length ≤ 20
/-- what Can says, and whether Find finds one -/
def CanP (B : List ByteArray) (L : List Ev) : Prop := sizesE B L = 0 ∧ smallP B L ∧ ∃ o, linE B L o = 0
theorem lin_okE {B : List ByteArray} {L : List Ev} {o : List Int} (hs : sizesE B L = 0) : linE B L o = 0 ↔ linOk B L o = true := by
  constructor
  · intro h; exact (lin_parts0 h).2
  · intro h
    unfold linE
    rw [if_neg (by omega), if_pos h]
end Go.Proofs.YtnmhnjjehglcfaaGreat.LinMath

/- What survives: layer 20 of the document as plain functions of lists. -/
namespace Go.Proofs.YtnmhnjjehglcfaaGreat.DurMath
open HisMath LinMath ModMath CmdMath
/-- the greatest index of an invocation of a Serial among the first m events, 0 if there is none -/
def inE (L : List Ev) (s : Int) : Nat → Nat
  | 0 => 0
  | m + 1 => match L[m]? with
    | some y => if invP s y then max (inE L s m) m else inE L s m
    | none => inE L s m
def flB (x : Ev) : Bool := x.ret && decide (x.kind = 4) && decide (x.err = 0)
/-- the point -/
def ptE (L : List Ev) : Nat → Nat
  | 0 => 0
  | m + 1 => match L[m]? with
    | some x => if flB x then max (ptE L m) (inE L x.serial m) else ptE L m
    | none => ptE L m
theorem in_next {L : List Ev} {s : Int} {j : Nat} {e : Ev} (h : L[j]? = some e) : (invP s e = true → inE L s (j + 1) = max (inE L s j) j) ∧ (invP s e = false → inE L s (j + 1) = inE L s j) :=
  ⟨fun hp => by simp [inE, h, hp], fun hp => by simp [inE, h, hp]⟩
theorem pt_next {L : List Ev} {j : Nat} {e : Ev} (h : L[j]? = some e) : (flB e = true → ptE L (j + 1) = max (ptE L j) (inE L e.serial j)) ∧ (flB e = false → ptE L (j + 1) = ptE L j) :=
  ⟨fun hp => by simp [ptE, h, hp], fun hp => by simp [ptE, h, hp]⟩
theorem in_le (L : List Ev) (s : Int) : ∀ m, inE L s m ≤ m
  | 0 => Nat.le_refl _
  | m + 1 => by
    have := in_le L s m
    unfold inE
    split
    · split <;> omega
    · omega
theorem pt_le (L : List Ev) : ∀ m, ptE L m ≤ m
  | 0 => Nat.le_refl _
  | m + 1 => by
    have := pt_le L m
    unfold ptE
    split
    · split
      · rename_i x _ _; have := in_le L x.serial m; omega
      · omega
    · omega
def ahP (s : Int) (y : Ev) : Bool := y.ret && decide (y.serial = s) && decide (y.err = 0)
/-- was the operation answered with OK ahead of an index -/
def ahB (L : List Ev) (s : Int) (n : Nat) : Bool := (L.take n).any (ahP s)
theorem ah_yes {L : List Ev} {s : Int} {n j : Nat} {e : Ev} (h : L[j]? = some e) (hj : j < n) (hp : ahP s e = true) : ahB L s n = true := by
  unfold ahB
  rw [List.any_eq_true]
  exact ⟨e, List.mem_of_getElem? (by rw [List.getElem?_take_of_lt hj]; exact h), hp⟩
theorem ah_no {L : List Ev} {s : Int} {n : Nat} (h : ∀ (i : Nat) (e : Ev), i < n → L[i]? = some e → ahP s e = false) : ahB L s n = false := by
  unfold ahB
  rw [List.any_eq_false]
  intro e he
  obtain ⟨i, hi⟩ := List.mem_iff_getElem?.1 he
  have hl := (List.getElem?_eq_some_iff.1 hi).1
  rw [List.length_take] at hl
  rw [List.getElem?_take_of_lt (by omega)] at hi
  simp [h i e (by omega) hi]
def chK (kind block b : Int) : Bool := decide (block = b) && (decide (kind = 2) || decide (kind = 3))
def chB (b : Int) (x : Ev) : Bool := chK x.kind x.block b
def valK (kind : Int) (d : ByteArray) : ByteArray := if kind = 3 then zeroC else d
def valB (x : Ev) : ByteArray := valK x.kind x.data
/-- a change of the block that was answered with OK, or is pending -/
def candB (b : Int) (x : Ev) : Bool := chB b x && (!x.ret || decide (x.err = 0))
def coP (L : List Ev) (n : Nat) (b : Int) (x y : Ev) : Bool := chB b y && ahB L y.serial n && beforeB L x.serial y.serial
def covB (L O : List Ev) (n : Nat) (b : Int) (x : Ev) : Bool := O.any (coP L n b x)
def firstE (L O : List Ev) (n : Nat) (b : Int) (m : Nat) : Bool := (O.take m).all (fun x => !candB b x || !ahB L x.serial n)
def outE (L O : List Ev) (n : Nat) (b : Int) : Nat → List ByteArray
  | 0 => []
  | m + 1 => match O[m]? with
    | some x => if candB b x && !covB L O n b x then putE (outE L O n b m) (valB x) else outE L O n b m
    | none => outE L O n b m
def allowE (B : List ByteArray) (L : List Ev) (b : Int) : List ByteArray :=
  if sizesE B L ≠ 0 ∨ b < 0 ∨ (B.length : Int) ≤ b then []
  else if firstE L (opsE L L.length) (ptE L L.length) b (opsE L L.length).length then putE (outE L (opsE L L.length) (ptE L L.length) b (opsE L L.length).length) (B.getD b.toNat ⟨#[]⟩)
  else outE L (opsE L L.length) (ptE L L.length) b (opsE L L.length).length
theorem out_next {L O : List Ev} {n : Nat} {b : Int} {j : Nat} {x : Ev} (h : O[j]? = some x) : ((candB b x && !covB L O n b x) = true → outE L O n b (j + 1) = putE (outE L O n b j) (valB x)) ∧ ((candB b x && !covB L O n b x) = false → outE L O n b (j + 1) = outE L O n b j) :=
  ⟨fun hp => by simp only [outE, h, hp, if_true], fun hp => by simp [outE, h, hp]⟩
theorem first_next {L O : List Ev} {n : Nat} {b : Int} {j : Nat} {x : Ev} (h : O[j]? = some x) : firstE L O n b (j + 1) = (firstE L O n b j && (!candB b x || !ahB L x.serial n)) := by
  unfold firstE
  rw [List.take_succ_eq_append_getElem (List.getElem?_eq_some_iff.1 h).1, (List.getElem?_eq_some_iff.1 h).2, List.all_append]
  simp
theorem cov_next {L O : List Ev} {n : Nat} {b : Int} {x : Ev} {j : Nat} {y : Ev} (h : O[j]? = some y) : (O.take (j + 1)).any (coP L n b x) = ((O.take j).any (coP L n b x) || coP L n b x y) := by
  rw [List.take_succ_eq_append_getElem (List.getElem?_eq_some_iff.1 h).1, (List.getElem?_eq_some_iff.1 h).2, List.any_append]
  simp
def durE (B : List ByteArray) (L : List Ev) (X : List ByteArray) : Int :=
  if sizesE B L ≠ 0 then sizesE B L else if X.length ≠ B.length then 2 else if (List.range B.length).all (fun i => (allowE B L (i : Int)).any (fun u => decide (some u = X[i]?))) then 0 else 14
theorem putK_len (L : List ByteArray) (v : ByteArray) : ∀ k, (putK L v k).length ≤ L.length + 1
  | 0 => by simp [putK]
  | k + 1 => by
    have := putK_len L v k
    unfold putK
    split
    · split
      · simp; omega
      · split <;> omega
    · omega
theorem put_len (L : List ByteArray) (v : ByteArray) : (putE L v).length ≤ L.length + 1 := putK_len L v _
end Go.Proofs.YtnmhnjjehglcfaaGreat.DurMath

/- What is allowed, as a set; it ascends; more events without a flush take nothing away. Plain mathematics. -/
namespace Go.Proofs.YtnmhnjjehglcfaaGreat.DurMath
open HisMath LinMath ModMath CmdMath
theorem out_mem (L O : List Ev) (n : Nat) (b : Int) : ∀ m, m ≤ O.length → AscS (outE L O n b m) ∧ ∀ v, v ∈ outE L O n b m ↔ ∃ x ∈ O.take m, candB b x = true ∧ covB L O n b x = false ∧ v = valB x
  | 0, _ => ⟨List.Pairwise.nil, fun v => by simp [outE]⟩
  | m + 1, hm => by
    obtain ⟨h1, h2⟩ := out_mem L O n b m (by omega)
    obtain ⟨x, hx⟩ : ∃ x, O[m]? = some x := ⟨_, List.getElem?_eq_getElem (by omega)⟩
    have ht : O.take (m + 1) = O.take m ++ [x] := by rw [List.take_succ_eq_append_getElem (List.getElem?_eq_some_iff.1 hx).1, (List.getElem?_eq_some_iff.1 hx).2]
    by_cases hc : (candB b x && !covB L O n b x) = true
    · rw [(out_next hx).1 hc]
      obtain ⟨p1, p2⟩ := put_asc (v := valB x) h1
      refine ⟨p1, fun v => ?_⟩
      rw [p2, h2, ht]
      simp only [Bool.and_eq_true, Bool.not_eq_true'] at hc
      constructor
      · rintro (rfl | ⟨y, hy, h⟩)
        · exact ⟨x, by simp, hc.1, hc.2, rfl⟩
        · exact ⟨y, List.mem_append_left _ hy, h⟩
      · rintro ⟨y, hy, q1, q2, q3⟩
        rcases List.mem_append.1 hy with hy | hy
        · exact .inr ⟨y, hy, q1, q2, q3⟩
        · rw [List.mem_singleton.1 hy] at q3
          exact .inl q3
    · rw [(out_next hx).2 (by simpa using hc)]
      refine ⟨h1, fun v => ?_⟩
      rw [h2, ht]
      constructor
      · rintro ⟨y, hy, h⟩
        exact ⟨y, List.mem_append_left _ hy, h⟩
      · rintro ⟨y, hy, q1, q2, q3⟩
        rcases List.mem_append.1 hy with hy | hy
        · exact ⟨y, hy, q1, q2, q3⟩
        · rw [List.mem_singleton.1 hy] at q1 q2
          exact absurd (by rw [q1, q2]; rfl) hc
theorem first_iff {L O : List Ev} {n : Nat} {b : Int} {m : Nat} : firstE L O n b m = true ↔ ∀ x ∈ O.take m, candB b x = true → ahB L x.serial n = false := by
  unfold firstE
  rw [List.all_eq_true]
  constructor
  · intro h x hx hc
    have := h x hx
    rw [hc] at this
    simpa using this
  · intro h x hx
    cases hc : candB b x
    · simp
    · simp [h x hx hc]
theorem cov_iff {L O : List Ev} {n : Nat} {b : Int} {x : Ev} : covB L O n b x = false ↔ ∀ y ∈ O, chB b y = true → ahB L y.serial n = true → beforeB L x.serial y.serial = false := by
  unfold covB
  rw [List.any_eq_false]
  unfold coP
  constructor
  · intro h y hy h1 h2
    have := h y hy
    rw [h1, h2] at this
    simpa using this
  · intro h y hy
    cases h1 : chB b y
    · simp
    · cases h2 : ahB L y.serial n
      · simp
      · simp [h y hy h1 h2]
/-- what block b may be: u is what it was at the beginning -/
def AllowP (L : List Ev) (b : Int) (u v : ByteArray) : Prop :=
  (∃ x ∈ opsE L L.length, candB b x = true ∧ (∀ y ∈ opsE L L.length, chB b y = true → ahB L y.serial (ptE L L.length) = true → beforeB L x.serial y.serial = false) ∧ v = valB x) ∨
  ((∀ x ∈ opsE L L.length, candB b x = true → ahB L x.serial (ptE L L.length) = false) ∧ v = u)
theorem allow_iff {B : List ByteArray} {L : List Ev} {i : Nat} {u : ByteArray} (hs : sizesE B L = 0) (hv : B[i]? = some u) : AscS (allowE B L (i : Int)) ∧ ∀ v, v ∈ allowE B L (i : Int) ↔ AllowP L (i : Int) u v := by
  have hi := (List.getElem?_eq_some_iff.1 hv).1
  obtain ⟨h1, h2⟩ := out_mem L (opsE L L.length) (ptE L L.length) (i : Int) _ (Nat.le_refl _)
  have hg : B.getD (i : Int).toNat ⟨#[]⟩ = u := by rw [Int.toNat_natCast, List.getD_eq_getElem?_getD, hv]; rfl
  unfold allowE
  rw [if_neg (by omega), hg]
  have hc : ∀ v, v ∈ outE L (opsE L L.length) (ptE L L.length) (i : Int) (opsE L L.length).length ↔ ∃ x ∈ opsE L L.length, candB (i : Int) x = true ∧ (∀ y ∈ opsE L L.length, chB (i : Int) y = true → ahB L y.serial (ptE L L.length) = true → beforeB L x.serial y.serial = false) ∧ v = valB x := fun v => by
    rw [h2, List.take_length]
    constructor
    · rintro ⟨x, a, b, c, d⟩
      exact ⟨x, a, b, cov_iff.1 c, d⟩
    · rintro ⟨x, a, b, c, d⟩
      exact ⟨x, a, b, cov_iff.2 c, d⟩
  have hf := @first_iff L (opsE L L.length) (ptE L L.length) (i : Int) (opsE L L.length).length
  rw [List.take_length] at hf
  unfold AllowP
  split
  · next hfs =>
    obtain ⟨p1, p2⟩ := put_asc (v := u) h1
    refine ⟨p1, fun v => ?_⟩
    rw [p2, hc]
    constructor
    · rintro (h | h)
      · exact .inr ⟨hf.1 hfs, h⟩
      · exact .inl h
    · rintro (h | h)
      · exact .inr h
      · exact .inl h.2
  · next hfs =>
    refine ⟨h1, fun v => ?_⟩
    rw [hc]
    constructor
    · exact .inl
    · rintro (h | h)
      · exact h
      · exact absurd (hf.2 h.1) hfs
theorem allow_none {B : List ByteArray} {L : List Ev} {b : Int} (h : sizesE B L ≠ 0 ∨ b < 0 ∨ (B.length : Int) ≤ b) : allowE B L b = [] := by unfold allowE; rw [if_pos h]
end Go.Proofs.YtnmhnjjehglcfaaGreat.DurMath

/- One more event that is no flush takes nothing away of what is allowed, and something is always allowed. Plain mathematics. -/
namespace Go.Proofs.YtnmhnjjehglcfaaGreat.DurMath
open HisMath LinMath ModMath CmdMath
theorem op_same (L : List Ev) (e : Ev) : (opOf L e).serial = e.serial ∧ (opOf L e).kind = e.kind ∧ (opOf L e).block = e.block ∧ (opOf L e).data = e.data := by
  unfold opOf
  split
  · exact ⟨rfl, rfl, rfl, rfl⟩
  · exact ⟨rfl, rfl, rfl, rfl⟩
theorem ch_op (L : List Ev) (e : Ev) (b : Int) : chB b (opOf L e) = chB b e := by
  obtain ⟨_, h2, h3, _⟩ := op_same L e
  unfold chB
  rw [h2, h3]
theorem op_open {L : List Ev} {e : Ev} (h : retI L e.serial < 0) : opOf L e = e := by
  unfold opOf
  rw [if_neg (by omega)]
theorem ret_one {L : List Ev} (h : Right L) : ∀ y ∈ L, ∀ z ∈ L, y.ret = true → z.ret = true → y.serial = z.serial → y = z := by
  induction h with
  | nil => simp
  | @inv L x hL hx ih =>
    intro y hy z hz yr zr hs
    rcases List.mem_append.1 hy with hy | hy
    · rcases List.mem_append.1 hz with hz | hz
      · exact ih y hy z hz yr zr hs
      · rw [List.mem_singleton.1 hz, hx.ret] at zr; cases zr
    · rw [List.mem_singleton.1 hy, hx.ret] at yr; cases yr
  | @ret L x hL hx ih =>
    intro y hy z hz yr zr hs
    rcases List.mem_append.1 hy with hy | hy
    · rcases List.mem_append.1 hz with hz | hz
      · exact ih y hy z hz yr zr hs
      · rw [List.mem_singleton.1 hz] at hs
        exact absurd hs (hx.open' y hy yr)
    · rw [List.mem_singleton.1 hy] at hs ⊢
      rcases List.mem_append.1 hz with hz | hz
      · exact absurd hs.symm (hx.open' z hz zr)
      · exact (List.mem_singleton.1 hz).symm
theorem ah_cand {L : List Ev} (hL : Right L) {x : Ev} {n : Nat} (hx : x ∈ opsE L L.length) (h : ahB L x.serial n = true) : (!x.ret || decide (x.err = 0)) = true := by
  obtain ⟨e, he, her, rfl⟩ := (mem_ops hL).1 hx
  rw [(op_same L e).1] at h
  rcases Int.lt_or_le (retI L e.serial) 0 with h1 | h1
  · rw [op_open h1, her]; rfl
  · obtain ⟨i, y, hi, hy, hp, _⟩ := seek_is (show 0 ≤ seek (retP e.serial) L from h1)
    unfold ahB at h
    obtain ⟨z, hz, hq⟩ := List.any_eq_true.1 h
    simp only [ahP, Bool.and_eq_true, decide_eq_true_eq] at hq
    obtain ⟨h3, h4⟩ := ret_is hp
    have hyz := ret_one hL y (List.mem_of_getElem? hy) z (List.mem_of_mem_take hz) h3 hq.1.1 (by rw [h4, hq.1.2])
    have : (opOf L e).err = y.err := by
      unfold opOf
      rw [if_pos h1, show retI L e.serial = (i : Int) from hi, Int.toNat_natCast, hy]
    rw [this, hyz, hq.2]
    simp
theorem max_before {L : List Ev} (hL : Right L) : ∀ C : List Ev, C ≠ [] → ∃ m ∈ C, ∀ y ∈ C, beforeB L m.serial y.serial = false
  | [], h => absurd rfl h
  | [a], _ => ⟨a, by simp, fun y hy => by rw [List.mem_singleton.1 hy]; exact before_irr hL _⟩
  | a :: c :: C, _ => by
    obtain ⟨m, hm, hmax⟩ := max_before hL (c :: C) (by simp)
    cases hb : beforeB L m.serial a.serial with
    | false =>
      refine ⟨m, List.mem_cons_of_mem _ hm, fun y hy => ?_⟩
      rcases List.mem_cons.1 hy with rfl | hy
      · exact hb
      · exact hmax y hy
    | true =>
      refine ⟨a, by simp, fun y hy => ?_⟩
      rcases List.mem_cons.1 hy with rfl | hy
      · exact before_irr hL _
      · cases hc : beforeB L a.serial y.serial with
        | false => rfl
        | true =>
          have := before_trans hL hb hc
          rw [hmax y hy] at this
          cases this
/-- something is always allowed -/
theorem allow_some {L : List Ev} (hL : Right L) (b : Int) (u : ByteArray) : ∃ v, AllowP L b u v := by
  by_cases hf : ∀ x ∈ opsE L L.length, candB b x = true → ahB L x.serial (ptE L L.length) = false
  · exact ⟨u, .inr ⟨hf, rfl⟩⟩
  · have hex : ∃ x ∈ opsE L L.length, candB b x = true ∧ ahB L x.serial (ptE L L.length) = true := by
      apply Classical.byContradiction
      intro h
      apply hf
      intro x hx hc
      cases ha : ahB L x.serial (ptE L L.length) with
      | false => rfl
      | true => exact absurd ⟨x, hx, hc, ha⟩ h
    obtain ⟨x, hx, hc, ha⟩ := hex
    have hch : chB b x = true := by unfold candB at hc; rw [Bool.and_eq_true] at hc; exact hc.1
    have hne : (opsE L L.length).filter (fun y => chB b y && ahB L y.serial (ptE L L.length)) ≠ [] := fun h => by
      have : x ∈ (opsE L L.length).filter (fun y => chB b y && ahB L y.serial (ptE L L.length)) := List.mem_filter.2 ⟨hx, by rw [hch, ha]; rfl⟩
      rw [h] at this
      cases this
    obtain ⟨m, hm, hmax⟩ := max_before hL _ hne
    obtain ⟨hm1, hm2⟩ := List.mem_filter.1 hm
    rw [Bool.and_eq_true] at hm2
    refine ⟨valB m, .inl ⟨m, hm1, ?_, fun y hy h1 h2 => hmax y (List.mem_filter.2 ⟨hy, by rw [h1, h2]; rfl⟩), rfl⟩⟩
    unfold candB
    rw [hm2.1, ah_cand hL hm1 hm2.2]
    rfl
end Go.Proofs.YtnmhnjjehglcfaaGreat.DurMath

/- What the program makes of a history for what is allowed, and that it is what is allowed. Plain mathematics. -/
namespace Go.Proofs.YtnmhnjjehglcfaaGreat.DurMath
open HisMath LinMath ModMath CmdMath
def serP (s : Int) (x : Ev) : Bool := decide (x.serial = s)
def dnP (x : Ev) : Bool := x.ret && decide (x.err = 0)
def chP (x : Ev) : Bool := decide (x.kind = 2) || decide (x.kind = 3)
def flP (x : Ev) : Bool := decide (x.kind = 4) && dnP x
def cvP (x : Ev) : Bool := chP x && dnP x
def hoP (x : Ev) : Bool := dnP x || !x.ret
def coverB (A C : List Ev) (x : Ev) : Bool := match C.getLast? with
  | none => false
  | some y => beforeB A x.serial y.serial
def lfP (A C : List Ev) (x : Ev) : Bool := chP x && hoP x && !coverB A C x
/-- the number of events ahead of the point -/
def ptP (L : List Ev) : Nat := match ((opsE L L.length).filter flP).getLast? with
  | none => 0
  | some f => (seek (serP f.serial) L).toNat
def covL (S : List Ev) (b : Int) : List Ev := (opsE (restE S b) (restE S b).length).filter cvP
def leftL (A C : List Ev) : List Ev := (opsE A A.length).filter (lfP A C)
def valsL (u : ByteArray) (A C : List Ev) : List ByteArray := (if C.length = 0 then [u] else []) ++ (leftL A C).map valB
theorem in_ge {L : List Ev} {s : Int} {j : Nat} {e : Ev} (h : L[j]? = some e) (hp : invP s e = true) : ∀ m, j < m → j ≤ inE L s m
  | 0, hj => absurd hj (Nat.not_lt_zero _)
  | m + 1, hj => by
    by_cases hm : j = m
    · subst hm
      rw [(in_next h).1 hp]
      omega
    · have ih := in_ge h hp m (by omega)
      unfold inE
      split
      · split <;> omega
      · exact ih
theorem pt_ge {L : List Ev} {i k : Nat} {x y : Ev} (hx : L[i]? = some x) (hf : flB x = true) (hk : L[k]? = some y) (hki : k < i) (hp : invP x.serial y = true) : ∀ m, i < m → k ≤ ptE L m
  | 0, hi => absurd hi (Nat.not_lt_zero _)
  | m + 1, hi => by
    by_cases hm : i = m
    · subst hm
      rw [(pt_next hx).1 hf]
      have := in_ge hk hp i hki
      omega
    · have ih := pt_ge hx hf hk hki hp m (by omega)
      unfold ptE
      split
      · split <;> omega
      · exact ih
theorem in_is (L : List Ev) (s : Int) : ∀ m, inE L s m = 0 ∨ ∃ k y, k < m ∧ L[k]? = some y ∧ invP s y = true ∧ inE L s m = k
  | 0 => .inl rfl
  | m + 1 => by
    have lift : (inE L s m = 0 ∨ ∃ k y, k < m ∧ L[k]? = some y ∧ invP s y = true ∧ inE L s m = k) → (inE L s m = 0 ∨ ∃ k y, k < m + 1 ∧ L[k]? = some y ∧ invP s y = true ∧ inE L s m = k) := by
      rintro (h | ⟨k, y, h1, h2⟩)
      · exact .inl h
      · exact .inr ⟨k, y, by omega, h2⟩
    have ih := lift (in_is L s m)
    unfold inE
    split
    · next y hy =>
      split
      · next hp =>
        rcases Nat.le_total (inE L s m) m with h | h
        · exact .inr ⟨m, y, by omega, hy, hp, by omega⟩
        · rw [Nat.max_eq_left h]; exact ih
      · exact ih
    · exact ih
theorem pt_is (L : List Ev) : ∀ m, ptE L m = 0 ∨ ∃ i x k y, i < m ∧ L[i]? = some x ∧ flB x = true ∧ k < i ∧ L[k]? = some y ∧ invP x.serial y = true ∧ ptE L m = k
  | 0 => .inl rfl
  | m + 1 => by
    have lift : (ptE L m = 0 ∨ ∃ i x k y, i < m ∧ L[i]? = some x ∧ flB x = true ∧ k < i ∧ L[k]? = some y ∧ invP x.serial y = true ∧ ptE L m = k) → (ptE L m = 0 ∨ ∃ i x k y, i < m + 1 ∧ L[i]? = some x ∧ flB x = true ∧ k < i ∧ L[k]? = some y ∧ invP x.serial y = true ∧ ptE L m = k) := by
      rintro (h | ⟨i, x, k, y, h1, h2⟩)
      · exact .inl h
      · exact .inr ⟨i, x, k, y, by omega, h2⟩
    have ih := lift (pt_is L m)
    unfold ptE
    split
    · next x hx =>
      split
      · next hp =>
        rcases Nat.le_total (inE L x.serial m) (ptE L m) with h | h
        · rw [Nat.max_eq_left h]; exact ih
        · rw [Nat.max_eq_right h]
          rcases in_is L x.serial m with h1 | ⟨k, y, h1, h2, h3, h4⟩
          · exact .inl h1
          · exact .inr ⟨m, x, k, y, by omega, hx, hp, h1, h2, h3, h4⟩
      · exact ih
    · exact ih
theorem inv_yes {s : Int} {y : Ev} (h1 : y.ret = false) (h2 : y.serial = s) : invP s y = true := by simp [invP, h1, h2]
theorem inv_idx {L : List Ev} (h : Right L) {k : Nat} {y : Ev} (hy : L[k]? = some y) (hr : y.ret = false) : invI L y.serial = (k : Int) := by
  obtain ⟨h0, h1⟩ := h.inv_at (List.mem_of_getElem? hy) hr
  have := h.one _ _ _ _ h1 hy hr hr rfl
  omega
/-- the first event of a Serial is its invocation -/
theorem ser_idx {L : List Ev} (h : Right L) {k : Nat} {y : Ev} (hy : L[k]? = some y) (hr : y.ret = false) : seek (serP y.serial) L = (k : Int) := by
  refine seek_at hy (decide_eq_true rfl) fun i z hi hz => ?_
  cases hs : serP y.serial z with
  | false => rfl
  | true =>
    have hs2 : z.serial = y.serial := of_decide_eq_true hs
    cases hzr : z.ret with
    | false => have := h.one _ _ _ _ hz hy hzr hr hs2; omega
    | true =>
      obtain ⟨p, v, hp, hv, hvr, hvs⟩ := h.ahead i z hz hzr
      have := h.one _ _ _ _ hv hy hvr hr (hvs.trans hs2)
      omega
theorem ret_call {L : List Ev} (h : Right L) : ∀ x ∈ L, x.ret = true → ∃ y ∈ L, y.ret = false ∧ y.serial = x.serial ∧ y.kind = x.kind ∧ y.block = x.block := by
  induction h with
  | nil => simp
  | @inv L x hL hx ih =>
    intro a ha hr
    rcases List.mem_append.1 ha with ha | ha
    · obtain ⟨y, hy, h1⟩ := ih a ha hr
      exact ⟨y, List.mem_append_left _ hy, h1⟩
    · rw [List.mem_singleton.1 ha, hx.ret] at hr; cases hr
  | @ret L x hL hx ih =>
    intro a ha hr
    rcases List.mem_append.1 ha with ha | ha
    · obtain ⟨y, hy, h1⟩ := ih a ha hr
      exact ⟨y, List.mem_append_left _ hy, h1⟩
    · rw [List.mem_singleton.1 ha]
      obtain ⟨y, hy, h1, h2, _, h3, h4, _⟩ := hx.one
      exact ⟨y, List.mem_append_left _ hy, h1, h2, h3, h4⟩
theorem call_one {L : List Ev} (h : Right L) {y z : Ev} (hy : y ∈ L) (hz : z ∈ L) (yr : y.ret = false) (zr : z.ret = false) (hs : y.serial = z.serial) : y = z := by
  obtain ⟨i, hi⟩ := List.mem_iff_getElem?.1 hy
  obtain ⟨j, hj⟩ := List.mem_iff_getElem?.1 hz
  have := h.one i j y z hi hj yr zr hs
  subst this
  rw [hi] at hj
  exact Option.some.inj hj
theorem op_of_ret {L : List Ev} (h : Right L) {x e : Ev} (hx : x ∈ L) (hr : x.ret = true) (hs : e.serial = x.serial) : (opOf L e).ret = true ∧ (opOf L e).err = x.err := by
  have h0 : 0 ≤ retI L e.serial := by
    rcases Int.lt_or_le (retI L e.serial) 0 with h1 | h1
    · exact absurd hs.symm (ret_neg.1 h1 x hx hr)
    · exact h1
  obtain ⟨i, y, hi, hy, hp, _⟩ := seek_is (show 0 ≤ seek (retP e.serial) L from h0)
  obtain ⟨h3, h4⟩ := ret_is hp
  have hyx := ret_one h y (List.mem_of_getElem? hy) x hx h3 hr (by rw [h4, hs])
  subst hyx
  unfold opOf
  rw [if_pos h0, show retI L e.serial = (i : Int) from hi, Int.toNat_natCast, hy]
  exact ⟨rfl, rfl⟩
theorem done_ret {L : List Ev} {e : Ev} (he : e.ret = false) (hd : dnP (opOf L e) = true) : ∃ x ∈ L, x.ret = true ∧ x.serial = e.serial ∧ x.err = 0 := by
  unfold dnP at hd
  rw [Bool.and_eq_true, decide_eq_true_eq] at hd
  rcases Int.lt_or_le (retI L e.serial) 0 with h1 | h1
  · rw [op_open h1, he] at hd; cases hd.1
  · obtain ⟨i, y, hi, hy, hp, _⟩ := seek_is (show 0 ≤ seek (retP e.serial) L from h1)
    obtain ⟨h3, h4⟩ := ret_is hp
    refine ⟨y, List.mem_of_getElem? hy, h3, h4, ?_⟩
    have h5 := hd.2
    unfold opOf at h5
    rwa [if_pos h1, show retI L e.serial = (i : Int) from hi, Int.toNat_natCast, hy] at h5
theorem ops_asc {L : List Ev} (h : Right L) : (opsE L L.length).Pairwise (fun x y => invI L x.serial < invI L y.serial) := by
  rw [ops_right h _ (Nat.le_refl _), List.take_length, List.pairwise_map]
  have h1 : L.Pairwise (fun x y => x.ret = false → y.ret = false → invI L x.serial < invI L y.serial) := by
    rw [List.pairwise_iff_getElem]
    intro i j hi hj hij xr yr
    rw [inv_idx h (List.getElem?_eq_getElem hi) xr, inv_idx h (List.getElem?_eq_getElem hj) yr]
    omega
  refine List.Pairwise.imp_of_mem (fun {x y} hx hy hxy => ?_) (h1.sublist List.filter_sublist)
  have hxr : x.ret = false := by simpa using (List.mem_filter.1 hx).2
  have hyr : y.ret = false := by simpa using (List.mem_filter.1 hy).2
  rw [(op_same L x).1, (op_same L y).1]
  exact hxy hxr hyr
/-- what stands last is invoked last -/
theorem last_most {L : List Ev} {f : Ev} {R : Ev → Ev → Prop} (hp : L.Pairwise R) (h : L.getLast? = some f) : ∀ z ∈ L, z = f ∨ R z f := by
  obtain ⟨ys, rfl⟩ := List.getLast?_eq_some_iff.1 h
  intro z hz
  rcases List.mem_append.1 hz with hz | hz
  · exact .inr ((List.pairwise_append.1 hp).2.2 z hz f (by simp))
  · exact .inl (List.mem_singleton.1 hz)
theorem pt_flush {L : List Ev} (h : Right L) {i k : Nat} {x y : Ev} (hx : L[i]? = some x) (hf : flB x = true) (hy : L[k]? = some y) (hp : invP x.serial y = true) : opOf L y ∈ (opsE L L.length).filter flP := by
  obtain ⟨yr, ys⟩ := inv_is hp
  have hxm := List.mem_of_getElem? hx
  have hym := List.mem_of_getElem? hy
  simp only [flB, Bool.and_eq_true, decide_eq_true_eq] at hf
  obtain ⟨v, hv, v1, v2, v3, _⟩ := ret_call h x hxm hf.1.1
  obtain rfl := call_one h hv hym v1 yr (by rw [v2, ys])
  obtain ⟨o1, o2⟩ := op_of_ret h hxm hf.1.1 ys
  refine List.mem_filter.2 ⟨(mem_ops h).2 ⟨v, hym, yr, rfl⟩, ?_⟩
  unfold flP dnP
  rw [(op_same L v).2.1, v3, o1, o2, hf.1.2, hf.2]
  rfl
theorem pt_same {L : List Ev} (h : Right L) : ptP L = ptE L L.length := by
  unfold ptP
  cases hl : ((opsE L L.length).filter flP).getLast? with
  | none =>
    have hn : (opsE L L.length).filter flP = [] := List.getLast?_eq_none_iff.1 hl
    rcases pt_is L L.length with h1 | ⟨i, x, k, y, _, h2, h3, _, h5, h6, _⟩
    · exact h1.symm
    · have := pt_flush h h2 h3 h5 h6
      rw [hn] at this
      cases this
  | some f =>
    have hfm := List.mem_of_getLast? hl
    obtain ⟨hfo, hff⟩ := List.mem_filter.1 hfm
    obtain ⟨e, he, her, rfl⟩ := (mem_ops h).1 hfo
    obtain ⟨k, hk⟩ := List.mem_iff_getElem?.1 he
    show (seek (serP (opOf L e).serial) L).toNat = _
    rw [(op_same L e).1, ser_idx h hk her, Int.toNat_natCast]
    simp only [flP, Bool.and_eq_true, decide_eq_true_eq] at hff
    obtain ⟨x, hx, xr, xs, xe⟩ := done_ret her hff.2
    obtain ⟨i, hi⟩ := List.mem_iff_getElem?.1 hx
    obtain ⟨v, hv, v1, v2, v3, _⟩ := ret_call h x hx xr
    obtain rfl := call_one h hv he v1 her (by rw [v2, xs])
    obtain ⟨p, z, hpi, hz, zr, zs⟩ := h.ahead i x hi xr
    have hpk := h.one p k z v hz hk zr her (by rw [zs, v2])
    subst hpk
    have hge := pt_ge hi (by unfold flB; rw [xr, xe, ← v3, ← (op_same L v).2.1, hff.1]; rfl) hk hpi (inv_yes her v2) L.length (List.getElem?_eq_some_iff.1 hi).1
    rcases pt_is L L.length with h1 | ⟨i', x', k', y', _, h2, h3, _, h5, h6, h7⟩
    · omega
    · have hm := pt_flush h h2 h3 h5 h6
      have yr' := (inv_is h6).1
      rcases last_most ((ops_asc h).sublist List.filter_sublist) hl _ hm with h8 | h8
      · have hser : y'.serial = v.serial := by rw [← (op_same L y').1, ← (op_same L v).1, h8]
        have := h.one _ _ _ _ h5 hk yr' her hser
        omega
      · rw [(op_same L y').1, (op_same L v).1, inv_idx h h5 yr', inv_idx h hk her] at h8
        omega
theorem ch_rest {b : Int} {x : Ev} (h : chB b x = true) : restB b x = true ∧ chP x = true := by
  unfold chB chK at h
  unfold restB chP
  simp only [Bool.and_eq_true, Bool.or_eq_true, decide_eq_true_eq] at h ⊢
  omega
theorem rest_ch {b : Int} {x : Ev} (h : restB b x = true) (hc : chP x = true) : chB b x = true := by
  unfold restB at h
  unfold chP at hc
  unfold chB chK
  simp only [Bool.and_eq_true, Bool.or_eq_true, decide_eq_true_eq] at h hc ⊢
  omega
theorem cov_ops {S : List Ev} (h : Right S) {b : Int} : covL S b = ((opsE S S.length).filter (restB b)).filter cvP := by
  unfold covL restE
  rw [ops_part h (rest_byCmd b)]
/-- the changes that were answered with OK ahead of the point -/
theorem cov_mem {L : List Ev} (h : Right L) {P : Nat} {b : Int} {c : Ev} (hc : c ∈ covL (L.take P) b) : ∃ y ∈ opsE L L.length, y.serial = c.serial ∧ chB b y = true ∧ ahB L y.serial P = true ∧ invI (L.take P) c.serial = invI L y.serial ∧ 0 ≤ invI L y.serial := by
  have hS := right_take h P
  rw [cov_ops hS] at hc
  obtain ⟨h1, h2⟩ := List.mem_filter.1 hc
  obtain ⟨h3, h4⟩ := List.mem_filter.1 h1
  obtain ⟨e, he, her, rfl⟩ := (mem_ops hS).1 h3
  unfold cvP at h2
  rw [Bool.and_eq_true] at h2
  obtain ⟨x, hx, xr, xs, xe⟩ := done_ret her h2.2
  have heL := List.mem_of_mem_take he
  refine ⟨opOf L e, (mem_ops h).2 ⟨e, heL, her, rfl⟩, by rw [(op_same L e).1, (op_same _ e).1], ?_, ?_, ?_⟩
  · rw [ch_op, ← ch_op (L.take P)]
    exact rest_ch h4 h2.1
  · rw [(op_same L e).1]
    unfold ahB
    exact List.any_eq_true.2 ⟨x, hx, by simp [ahP, xr, xs, xe]⟩
  · rw [(op_same L e).1, (op_same _ e).1]
    have h9 := (hS.inv_at he her).1
    have h8 : invI L e.serial = invI (L.take P) e.serial := seek_front h9
    exact ⟨h8.symm, by omega⟩
theorem mem_cov {L : List Ev} (h : Right L) {P : Nat} {b : Int} {y : Ev} (hy : y ∈ opsE L L.length) (hb : chB b y = true) (ha : ahB L y.serial P = true) : ∃ c ∈ covL (L.take P) b, c.serial = y.serial := by
  have hS := right_take h P
  obtain ⟨e, he, her, rfl⟩ := (mem_ops h).1 hy
  rw [(op_same L e).1] at ha ⊢
  unfold ahB at ha
  obtain ⟨x, hx, hp⟩ := List.any_eq_true.1 ha
  simp only [ahP, Bool.and_eq_true, decide_eq_true_eq] at hp
  obtain ⟨v, hv, v1, v2, _, _⟩ := ret_call hS x hx hp.1.1
  obtain rfl := call_one h (List.mem_of_mem_take hv) he v1 her (by rw [v2, hp.1.2])
  obtain ⟨o1, o2⟩ := op_of_ret hS hx hp.1.1 v2
  have hch := ch_rest (x := opOf (L.take P) v) (b := b) (by rw [ch_op, ← ch_op L]; exact hb)
  refine ⟨opOf (L.take P) v, ?_, (op_same _ v).1⟩
  rw [cov_ops hS]
  refine List.mem_filter.2 ⟨List.mem_filter.2 ⟨(mem_ops hS).2 ⟨v, hv, v1, rfl⟩, hch.1⟩, ?_⟩
  unfold cvP dnP
  rw [hch.2, o1, o2, hp.2]
  rfl
/-- who is before one of them is before the last one -/
theorem cover_iff {L : List Ev} (h : Right L) {P : Nat} {b : Int} {x : Ev} (hx : x ∈ opsE L L.length) (hr : restB b x = true) : coverB (restE L b) (covL (L.take P) b) x = true ↔ ∃ c ∈ covL (L.take P) b, beforeB L x.serial c.serial = true := by
  have hS := right_take h P
  have hbe : ∀ c ∈ covL (L.take P) b, beforeB (restE L b) x.serial c.serial = beforeB L x.serial c.serial := fun c hc => by
    obtain ⟨y, hy, hs, hch, _⟩ := cov_mem h hc
    rw [← hs]
    exact before_part h (rest_byCmd b) hx hy hr (ch_rest hch).1
  unfold coverB
  cases hl : (covL (L.take P) b).getLast? with
  | none =>
    have hn : covL (L.take P) b = [] := List.getLast?_eq_none_iff.1 hl
    rw [hn]
    simp
  | some f =>
    have hfm := List.mem_of_getLast? hl
    show beforeB (restE L b) x.serial f.serial = true ↔ _
    rw [hbe f hfm]
    constructor
    · exact fun hb => ⟨f, hfm, hb⟩
    · rintro ⟨c, hc, hb⟩
      have hp : (covL (L.take P) b).Pairwise (fun x y => invI (L.take P) x.serial < invI (L.take P) y.serial) := by
        rw [cov_ops hS]
        exact ((ops_asc hS).sublist List.filter_sublist).sublist List.filter_sublist
      rcases last_most hp hl c hc with rfl | hlt
      · exact hb
      · obtain ⟨y, _, hs, _, _, hi, _⟩ := cov_mem h hc
        obtain ⟨z, _, hs2, _, _, hi2, h02⟩ := cov_mem h hfm
        rw [hi, hi2] at hlt
        rw [← hs] at hb
        rw [← hs2]
        simp only [beforeB, Bool.and_eq_true, decide_eq_true_eq] at hb ⊢
        omega
theorem left_mem {L : List Ev} (h : Right L) {P : Nat} {b : Int} {x : Ev} : x ∈ leftL (restE L b) (covL (L.take P) b) ↔ x ∈ opsE L L.length ∧ candB b x = true ∧ ∀ y ∈ opsE L L.length, chB b y = true → ahB L y.serial P = true → beforeB L x.serial y.serial = false := by
  unfold leftL
  have ho : opsE (restE L b) (restE L b).length = (opsE L L.length).filter (restB b) := by unfold restE; exact ops_part h (rest_byCmd b)
  rw [ho]
  constructor
  · intro hx
    obtain ⟨h1, h2⟩ := List.mem_filter.1 hx
    obtain ⟨h3, h4⟩ := List.mem_filter.1 h1
    simp only [lfP, Bool.and_eq_true] at h2
    refine ⟨h3, ?_, fun y hy hb ha => ?_⟩
    · unfold candB
      rw [rest_ch h4 h2.1.1]
      have := h2.1.2
      unfold hoP dnP at this
      cases hr : x.ret <;> simp_all
    · cases hbe : beforeB L x.serial y.serial with
      | false => rfl
      | true =>
        obtain ⟨c, hc, hs⟩ := mem_cov h hy hb ha
        have := (cover_iff h (P := P) h3 h4).2 ⟨c, hc, by rw [hs]; exact hbe⟩
        rw [this] at h2
        cases h2.2
  · rintro ⟨h1, h2, h3⟩
    unfold candB at h2
    rw [Bool.and_eq_true] at h2
    obtain ⟨r1, r2⟩ := ch_rest h2.1
    refine List.mem_filter.2 ⟨List.mem_filter.2 ⟨h1, r1⟩, ?_⟩
    unfold lfP
    rw [r2, show hoP x = true by unfold hoP dnP; have := h2.2; cases hr : x.ret <;> simp_all]
    cases hc : coverB (restE L b) (covL (L.take P) b) x with
    | false => rfl
    | true =>
      obtain ⟨c, hcm, hbe⟩ := (cover_iff h h1 r1).1 hc
      obtain ⟨y, hy, hs, hch, ha, _⟩ := cov_mem h hcm
      rw [← hs, h3 y hy hch ha] at hbe
      cases hbe
theorem vals_iff {L : List Ev} (h : Right L) {b : Int} {u v : ByteArray} : v ∈ valsL u (restE L b) (covL (L.take (ptP L)) b) ↔ AllowP L b u v := by
  rw [pt_same h]
  unfold valsL AllowP
  rw [List.mem_append, List.mem_map]
  constructor
  · rintro (h1 | ⟨x, hx, rfl⟩)
    · split at h1
      · next hn =>
        refine .inr ⟨fun x hx hc => ?_, List.mem_singleton.1 h1⟩
        cases ha : ahB L x.serial (ptE L L.length) with
        | false => rfl
        | true =>
          unfold candB at hc
          rw [Bool.and_eq_true] at hc
          obtain ⟨c, hcm, _⟩ := mem_cov h hx hc.1 ha
          rw [List.eq_nil_of_length_eq_zero hn] at hcm
          cases hcm
      · cases h1
    · obtain ⟨h1, h2, h3⟩ := (left_mem h).1 hx
      exact .inl ⟨x, h1, h2, h3, rfl⟩
  · rintro (⟨x, h1, h2, h3, rfl⟩ | ⟨h1, rfl⟩)
    · exact .inr ⟨x, (left_mem h).2 ⟨h1, h2, h3⟩, rfl⟩
    · refine .inl ?_
      rw [if_pos]
      · simp
      · cases hc : covL (L.take (ptE L L.length)) b with
        | nil => rfl
        | cons c C =>
          obtain ⟨y, hy, _, hch, ha, _⟩ := cov_mem h (c := c) (P := ptE L L.length) (b := b) (by rw [hc]; simp)
          have := h1 y hy (by unfold candB; rw [hch, ah_cand h hy ha]; rfl)
          rw [ha] at this
          cases this
theorem vals_pos {L : List Ev} (h : Right L) (b : Int) (u : ByteArray) : 0 < (valsL u (restE L b) (covL (L.take (ptP L)) b)).length := by
  obtain ⟨v, hv⟩ := allow_some h b u
  exact List.length_pos_of_mem ((vals_iff h).2 hv)
theorem pt_small {L : List Ev} (h : Right L) : ptP L ≤ L.length := by rw [pt_same h]; exact pt_le L L.length
/-- the last flush has an event -/
theorem pt_found {L : List Ev} (h : Right L) {f : Ev} (hf : f ∈ opsE L L.length) : ∃ k : Nat, seek (serP f.serial) L = (k : Int) ∧ k < L.length := by
  obtain ⟨e, he, her, rfl⟩ := (mem_ops h).1 hf
  obtain ⟨k, hk⟩ := List.mem_iff_getElem?.1 he
  rw [(op_same L e).1]
  exact ⟨k, ser_idx h hk her, (List.getElem?_eq_some_iff.1 hk).1⟩
theorem sizes_right {B : List ByteArray} {L : List Ev} (h : sizesE B L = 0) : Right L := by
  unfold sizesE at h
  split at h
  · next h1 => exact absurd h h1
  · next h1 =>
    have h2 : checkE (B.length : Int) L = 0 := by omega
    unfold checkE at h2
    split at h2
    · cases h2
    · split at h2
      · cases h2
      · split at h2
        · next h3 => exact (rights_iff L).1 h3
        · cases h2
/-- what the program's list comes to -/
theorem allow_vals {B : List ByteArray} {L : List Ev} {i : Nat} {u : ByteArray} (hs : sizesE B L = 0) (hv : B[i]? = some u) {E : List ByteArray} (ha : AscS E) (hm : ∀ x, x ∈ E ↔ x ∈ valsL u (restE L (i : Int)) (covL (L.take (ptP L)) (i : Int))) : E = allowE B L (i : Int) := by
  obtain ⟨h1, h2⟩ := allow_iff hs hv
  exact asc_only ha h1 fun x => by rw [hm x, vals_iff (sizes_right hs), h2 x]
theorem pt_none {L : List Ev} (h : ((opsE L L.length).filter flP).getLast? = none) : ptP L = 0 := by unfold ptP; rw [h]
theorem pt_last {L : List Ev} {f : Ev} (h : ((opsE L L.length).filter flP).getLast? = some f) : ptP L = (seek (serP f.serial) L).toNat := by unfold ptP; rw [h]
end Go.Proofs.YtnmhnjjehglcfaaGreat.DurMath
