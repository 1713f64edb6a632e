
/- Counters that follow a shard. Plain mathematics. -/
import Derived.Test.YtigmjpkhpoolkaaCntMath
namespace Go.Proofs.Ytigmjpkhpoolkaa.CntMath
open EntMath
/-- how many entries lie in a zone -/
def zc (i : Int) (S : List Ent) : Nat := S.countP fun e => decide (e.zone = i)
theorem zc_nil (i : Int) : zc i [] = 0 := rfl
theorem zc_cons (i : Int) (e : Ent) (S : List Ent) : zc i (e :: S) = zc i S + if e.zone = i then 1 else 0 := by
  unfold zc
  rw [List.countP_cons]
  simp
theorem zc_append (i : Int) (S T : List Ent) : zc i (S ++ T) = zc i S + zc i T := by unfold zc; rw [List.countP_append]
theorem zc_le (i : Int) (S : List Ent) : zc i S ≤ S.length := List.countP_le_length
theorem plus_getD (l : List Int) (k i : Nat) (hi : i < l.length) (n : Int) : (plusL l k n).getD i 0 = l.getD i 0 + if k = i then n else 0 := by
  unfold plusL
  rw [List.getD_eq_getElem?_getD, List.getElem?_set]
  by_cases h : k = i
  · subst h
    rw [if_pos rfl, if_pos hi, if_pos rfl]
    rfl
  · rw [if_neg h, if_neg h, Int.add_zero, ← List.getD_eq_getElem?_getD]
theorem count_getD (S : List Ent) : ∀ (l : List Int) (i : Nat), i < l.length → (∀ e ∈ S, 0 ≤ e.zone) → (countL l S).getD i 0 = l.getD i 0 + (zc (i : Int) S : Int) := by
  induction S with
  | nil => intro l i _ _; simp [countL, zc]
  | cons e S ih =>
    intro l i hi hz
    have h0 := hz e (List.mem_cons_self ..)
    show (countL (plusL l e.zone.toNat 1) S).getD i 0 = _
    rw [ih _ i (by rw [plus_len]; exact hi) (fun x hx => hz x (List.mem_cons_of_mem _ hx)), plus_getD _ _ _ hi, zc_cons]
    by_cases h : e.zone = (i : Int)
    · rw [if_pos (by omega), if_pos h]
      omega
    · rw [if_neg (by omega), if_neg h]
      omega
theorem list_eq {l m : List Int} (h : l.length = m.length) (hi : ∀ i, i < l.length → l.getD i 0 = m.getD i 0) : l = m := by
  refine List.ext_getElem h fun i h1 h2 => ?_
  have := hi i h1
  rw [List.getD_eq_getElem?_getD, List.getD_eq_getElem?_getD, List.getElem?_eq_getElem h1, List.getElem?_eq_getElem h2] at this
  exact this
/-- the counters of a list of entries -/
def cOf (n : Nat) (S : List Ent) : Cnt := ⟨countL (List.replicate n 0) S, List.replicate n 0⟩
theorem in_pos {n : Nat} {S : List Ent} (h : inZ (n : Int) S = true) : ∀ e ∈ S, 0 ≤ e.zone ∧ e.zone < (n : Int) := by
  intro e he
  have := List.all_eq_true.1 h e he
  simpa using this
theorem in_of {n : Nat} {S : List Ent} (h : ∀ e ∈ S, 0 ≤ e.zone ∧ e.zone < (n : Int)) : inZ (n : Int) S = true := List.all_eq_true.2 fun e he => by simpa using h e he
theorem of_is {n : Nat} {S : List Ent} (h1 : 1 ≤ n) (h2 : n ≤ 32) (h : inZ (n : Int) S = true) : ofB (n : Int) S = true ∧ ofC (n : Int) S = cOf n S := by
  have hb : ofB (n : Int) S = true := by
    unfold ofB
    rw [h]
    simp
    omega
  exact ⟨hb, by unfold ofC; rw [if_pos hb]; rfl⟩
theorem cOf_valid {n : Nat} {S : List Ent} (h1 : 1 ≤ n) (h2 : n ≤ 32) (hS : S.length ≤ 1000000) : validC (cOf n S) = true := by
  have := count_valid h1 h2 S hS S.length (Nat.le_refl _)
  rw [List.take_length] at this
  exact this
theorem cOf_getD {n : Nat} {S : List Ent} (h : inZ (n : Int) S = true) {i : Nat} (hi : i < n) : (cOf n S).live.getD i 0 = (zc (i : Int) S : Int) := by
  show (countL (List.replicate n 0) S).getD i 0 = _
  rw [count_getD _ _ _ (by simpa using hi) (fun e he => (in_pos h e he).1), List.getD_eq_getElem?_getD, List.getElem?_replicate, if_pos hi]
  simp
theorem cOf_len (n : Nat) (S : List Ent) : (cOf n S).live.length = n := by
  show (countL _ S).length = n
  rw [count_len, List.length_replicate]
theorem cOf_same {n : Nat} {S T : List Ent} (hS : inZ (n : Int) S = true) (hT : inZ (n : Int) T = true) (h : ∀ i : Nat, i < n → zc (i : Int) S = zc (i : Int) T) : cOf n S = cOf n T := by
  have h2 : (cOf n S).live = (cOf n T).live := list_eq (by rw [cOf_len, cOf_len]) fun i hi => by
    rw [cOf_len] at hi
    rw [cOf_getD hS hi, cOf_getD hT hi, h i hi]
  show (⟨(cOf n S).live, List.replicate n 0⟩ : Cnt) = ⟨(cOf n T).live, List.replicate n 0⟩
  rw [h2]
theorem change_of {n : Nat} {S T : List Ent} {o f : Int} {had is : Bool} (h1 : 1 ≤ n) (h2 : n ≤ 32) (hS : inZ (n : Int) S = true) (hT : inZ (n : Int) T = true) (lS : S.length ≤ 1000000) (lT : T.length ≤ 1000000)
    (ho : had = true → 0 ≤ o ∧ o < (n : Int)) (hf : is = true → 0 ≤ f ∧ f < (n : Int))
    (hc : ∀ i : Nat, i < n → (zc (i : Int) T : Int) = (zc (i : Int) S : Int) - (if had = true ∧ o = (i : Int) then 1 else 0) + (if is = true ∧ f = (i : Int) then 1 else 0)) :
    changeC (cOf n S) o f had is = cOf n T ∧ changeB (cOf n S) o f had is = true := by
  have hv := cOf_valid h1 h2 lS
  have hll : (less (cOf n S) o had).length = n := by
    unfold less
    split
    · rw [plus_len, cOf_len]
    · exact cOf_len n S
  have hml : (more (less (cOf n S) o had) f is).length = n := by
    unfold more
    split
    · rw [plus_len, hll]
    · exact hll
  have hch : changedC (cOf n S) o f had is = cOf n T := by
    have h3 : more (less (cOf n S) o had) f is = (cOf n T).live := list_eq (by rw [hml, cOf_len]) fun i hi => by
      rw [hml] at hi
      have e1 : (less (cOf n S) o had).getD i 0 = (zc (i : Int) S : Int) - (if had = true ∧ o = (i : Int) then 1 else 0) := by
        unfold less
        cases had with
        | false => simp only [Bool.false_eq_true, if_false, false_and]; rw [cOf_getD hS hi]; omega
        | true =>
          have := ho rfl
          simp only [if_true, true_and]
          rw [plus_getD _ _ _ (by rw [cOf_len]; exact hi), cOf_getD hS hi]
          by_cases h : o = (i : Int)
          · rw [if_pos (by omega), if_pos h]; omega
          · rw [if_neg (by omega), if_neg h]; omega
      have e2 : (more (less (cOf n S) o had) f is).getD i 0 = (less (cOf n S) o had).getD i 0 + (if is = true ∧ f = (i : Int) then 1 else 0) := by
        unfold more
        cases is with
        | false => simp
        | true =>
          have := hf rfl
          simp only [if_true, true_and]
          rw [plus_getD _ _ _ (by rw [hll]; exact hi)]
          by_cases h : f = (i : Int)
          · rw [if_pos (by omega), if_pos h]
          · rw [if_neg (by omega), if_neg h]
      rw [e2, e1, cOf_getD hT hi, hc i hi]
    show (⟨more (less (cOf n S) o had) f is, List.replicate n 0⟩ : Cnt) = ⟨(cOf n T).live, List.replicate n 0⟩
    rw [h3]
  have hB : changeB (cOf n S) o f had is = true := by
    unfold changeB asksC
    rw [hch, cOf_valid h1 h2 lT, hv]
    have a1 : (!had || hasC (cOf n S) o) = true := by
      cases had with
      | false => rfl
      | true =>
        have := ho rfl
        simp only [Bool.not_true, Bool.false_or]
        exact has_c.2 ⟨hv, this.1, by rw [cOf_len]; exact this.2⟩
    have a2 : (!is || hasC (cOf n S) f) = true := by
      cases is with
      | false => rfl
      | true =>
        have := hf rfl
        simp only [Bool.not_true, Bool.false_or]
        exact has_c.2 ⟨hv, this.1, by rw [cOf_len]; exact this.2⟩
    rw [a1, a2]
    rfl
  exact ⟨by unfold changeC; rw [if_pos hB, hch], hB⟩
theorem asc_tail {x : Ent} {L : List Ent} (h : Asc (x :: L)) : Asc L ∧ ∀ y ∈ L, x.block < y.block := by
  have := List.pairwise_cons.1 h
  exact ⟨this.2, this.1⟩
theorem zc_ins (i : Int) (e : Ent) : ∀ (L : List Ent), Asc L → zc i (ins L e) + (match lookE L e.block with | some y => if y.zone = i then 1 else 0 | none => 0) = zc i L + if e.zone = i then 1 else 0
  | [], _ => by simp [ins, lookE, zc_cons, zc_nil]
  | x :: L, h => by
    obtain ⟨hA, hlt⟩ := asc_tail h
    have ih := zc_ins i e L hA
    rw [look_cons]
    unfold ins
    by_cases h1 : x.block < e.block
    · rw [if_pos h1, if_neg (by omega), zc_cons, zc_cons]
      omega
    · rw [if_neg h1]
      by_cases h2 : x.block = e.block
      · rw [if_pos h2, if_pos h2, zc_cons, zc_cons]
        simp only
        omega
      · rw [if_neg h2, if_neg h2, zc_cons, look_none (fun y hy => by have := hlt y hy; omega)]
        rfl
/-- an install that is newer -/
theorem follow_install {n : Nat} {S : List Ent} {x : Ent} (h1 : 1 ≤ n) (h2 : n ≤ 32) (hv : validB S = true) (hS : inZ (n : Int) S = true) (lS : S.length ≤ 999999) (hn : newer S x = true) (hx : 0 ≤ x.zone ∧ x.zone < (n : Int)) :
    changeC (cOf n S) (installE S x).zone x.zone (decide ((installE S x).kind ≠ 0)) true = cOf n (installL S x) ∧ changeB (cOf n S) (installE S x).zone x.zone (decide ((installE S x).kind ≠ 0)) true = true ∧ inZ (n : Int) (installL S x) = true := by
  have hA := (valid_iff.1 hv).2
  have he : installE S x = (lookE S x.block).getD zeroE := if_pos ⟨hv, newer_ok hn⟩
  have hi : installL S x = ins S x := by rw [install_eq hv, if_pos hn]
  have hI : inZ (n : Int) (ins S x) = true := in_of fun e h => by
    rcases mem_ins h with rfl | h
    · exact hx
    · exact in_pos hS e h
  rw [he, hi]
  have hz := fun i : Nat => zc_ins (i : Int) x S hA
  have hlen := ins_length S x
  cases hl : lookE S x.block with
  | none =>
    simp only [hl] at hz
    have := change_of (o := zeroE.zone) (f := x.zone) (had := false) (is := true) h1 h2 hS hI (by omega) (by omega) (fun h => by cases h) (fun _ => hx) (fun i _ => by
      have := hz i
      simp only [Bool.false_eq_true, false_and, if_false, true_and]
      split <;> rename_i h <;> simp only [h, if_true, if_false] at this <;> omega)
    exact ⟨this.1, this.2, hI⟩
  | some y =>
    simp only [hl] at hz
    have hy := look_mem hl
    have hok := (valid_iff.1 hv).1 y hy
    have hk : y.kind ≠ 0 := by
      unfold okE at hok
      simp only [Bool.and_eq_true, Bool.or_eq_true, decide_eq_true_eq] at hok
      omega
    have := change_of (o := y.zone) (f := x.zone) (had := true) (is := true) h1 h2 hS hI (by omega) (by omega) (fun _ => in_pos hS y hy) (fun _ => hx) (fun i _ => by
      have := hz i
      simp only [true_and]
      split <;> rename_i ha <;> split <;> rename_i hb <;> simp only [ha, hb, if_true, if_false] at this <;> omega)
    simp only [Option.getD_some]
    rw [decide_eq_true hk]
    exact ⟨this.1, this.2, hI⟩
theorem zc_filter (i : Int) (p : Ent → Bool) (S : List Ent) : zc i (S.filter fun e => !p e) + zc i (S.filter p) = zc i S := by
  induction S with
  | nil => rfl
  | cons e S ih =>
    rw [List.filter_cons, List.filter_cons]
    cases p e <;> simp [zc_cons] <;> omega
theorem in_filter {n : Int} (p : Ent → Bool) {S : List Ent} (h : inZ n S = true) : inZ n (S.filter p) = true := List.all_eq_true.2 fun e he => List.all_eq_true.1 h e (List.mem_filter.1 he).1
theorem in_append {n : Int} {S T : List Ent} (h : inZ n S = true) (k : inZ n T = true) : inZ n (S ++ T) = true := by unfold inZ at *; rw [List.all_append, h, k]; rfl
theorem in_drop {n : Int} {S : List Ent} (h : inZ n S = true) (k : Nat) : inZ n (S.drop k) = true := List.all_eq_true.2 fun e he => List.all_eq_true.1 h e (List.mem_of_mem_drop he)
/-- what is left while a drop is told, one entry after the other -/
def left (S : List Ent) (cut : Int) (k : Nat) : List Ent := stayL S cut ++ (goneL S cut).drop k
theorem follow_first {n : Nat} {S : List Ent} {cut : Int} (hv : validB S = true) (hS : inZ (n : Int) S = true) : cOf n S = cOf n (left S cut 0) ∧ inZ (n : Int) (stayL S cut) = true := by
  have h1 : inZ (n : Int) (stayL S cut) = true := by rw [stay_eq hv]; exact in_filter _ hS
  have h2 : inZ (n : Int) (goneL S cut) = true := by rw [gone_eq hv]; exact in_filter _ hS
  refine ⟨cOf_same hS (in_append h1 (in_drop h2 0)) fun i _ => ?_, h1⟩
  unfold left
  rw [List.drop_zero, zc_append, stay_eq hv, gone_eq hv, zc_filter]
theorem follow_drop {n : Nat} {S : List Ent} {cut : Int} {k : Nat} {e : Ent} (h1 : 1 ≤ n) (h2 : n ≤ 32) (hv : validB S = true) (hS : inZ (n : Int) S = true) (lS : S.length ≤ 999999) (he : (goneL S cut)[k]? = some e) (f : Int) :
    changeC (cOf n (left S cut k)) e.zone f true false = cOf n (left S cut (k + 1)) ∧ changeB (cOf n (left S cut k)) e.zone f true false = true := by
  have g1 : inZ (n : Int) (stayL S cut) = true := by rw [stay_eq hv]; exact in_filter _ hS
  have g2 : inZ (n : Int) (goneL S cut) = true := by rw [gone_eq hv]; exact in_filter _ hS
  have hl := stay_gone (c := cut) hv
  have hd : (goneL S cut).drop k = e :: (goneL S cut).drop (k + 1) := by
    obtain ⟨hk, rfl⟩ := List.getElem?_eq_some_iff.1 he
    exact List.drop_eq_getElem_cons hk
  refine change_of h1 h2 (in_append g1 (in_drop g2 _)) (in_append g1 (in_drop g2 _)) ?_ ?_ (fun _ => in_pos g2 e (List.mem_of_getElem? he)) (fun h => by cases h) fun i _ => ?_
  · unfold left
    rw [List.length_append, List.length_drop]
    omega
  · unfold left
    rw [List.length_append, List.length_drop]
    omega
  · unfold left
    rw [zc_append, zc_append, hd, zc_cons]
    simp only [Bool.false_eq_true, false_and, if_false, true_and]
    split <;> omega
theorem follow_last {n : Nat} {S : List Ent} {cut : Int} : cOf n (left S cut (goneL S cut).length) = cOf n (stayL S cut) := by
  unfold left
  rw [List.drop_length, List.append_nil]
theorem follow_new : newC 4 = cOf 4 [] ∧ newCE 4 = 0 := by decide
end Go.Proofs.Ytigmjpkhpoolkaa.CntMath
