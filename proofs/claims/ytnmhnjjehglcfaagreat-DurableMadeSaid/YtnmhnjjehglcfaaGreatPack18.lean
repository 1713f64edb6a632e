/- Texts that belong together, part 18. -/
import Derived.Test.YtnmhnjjehglcfaaGreatPack17

/- The search by pairs is complete: from a state with an end and with reads left there is a pair that leads to a state with an end. Plain mathematics. -/
namespace Go.Proofs.YtnmhnjjehglcfaaGreat.SrchM
open LinMath
section
variable {S : List Stp}
theorem loop_all {p : St → Nat → Stp → Bool} {s : St} (hg : ∀ n, Goes S s (loopS S p s n)) (A : Nat → Prop) (hA : ∀ n, A n → ∀ k, bf S k n → s.D.testBit k = true ∨ A k) (hS : SOk S) (hex : ∀ n, A n → ∃ a, S[n]? = some a)
    (hp : ∀ t n a, S[n]? = some a → A n → t.D.testBit n = false → p t n a = true) : ∀ n k, k < n → A k → (loopS S p s n).D.testBit k = true
  | 0, k, h, _ => absurd h (Nat.not_lt_zero _)
  | n + 1, k, h, hk => by
    have ih := loop_all hg A hA hS hex hp n
    by_cases hkn : k = n
    · subst hkn
      obtain ⟨a, ha⟩ := hex k hk
      have hpre : pre S (loopS S p s k).D k := fun j hj => by
        rcases hA k hk j hj with h1 | h1
        · exact (hg k).mono h1
        · exact ih j (hS.lt hj) h1
      cases hb : (loopS S p s k).D.testBit k with
      | true =>
        unfold loopS
        rw [ha]
        simp only
        split
        · rw [do_yes ha hpre]
          show ((loopS S p s k).D ||| 2 ^ k).testBit k = true
          rw [bit_or]; simp
        · exact hb
      | false =>
        unfold loopS
        rw [ha]
        simp only [hp _ k a ha hk hb, if_true]
        rw [do_yes ha hpre]
        show ((loopS S p s k).D ||| 2 ^ k).testBit k = true
        rw [bit_or]; simp
    · have h1 := ih k (by omega) hk
      unfold loopS
      cases ha : S[n]? with
      | none => exact h1
      | some a =>
        simp only
        split
        · by_cases h9 : pre S (loopS S p s n).D n
          · rw [do_yes ha h9]
            show ((loopS S p s n).D ||| 2 ^ n).testBit k = true
            rw [bit_or, h1]; rfl
          · rw [do_no h9]; exact h1
        · exact h1
theorem loop_in {p : St → Nat → Stp → Bool} {s : St} {A : Nat → Prop} (hp : ∀ t n a, S[n]? = some a → p t n a = true → A n) : ∀ n k, (loopS S p s n).D.testBit k = true → s.D.testBit k = true ∨ A k
  | 0, _, h => .inl h
  | n + 1, k, h => by
    have ih := loop_in (s := s) hp n k
    unfold loopS at h
    cases ha : S[n]? with
    | none => rw [ha] at h; exact ih h
    | some a =>
      rw [ha] at h
      simp only at h
      split at h
      · rename_i hq
        by_cases h9 : pre S (loopS S p s n).D n
        · rw [do_yes ha h9] at h
          have h' : ((loopS S p s n).D ||| 2 ^ n).testBit k = true := h
          rw [bit_or, Bool.or_eq_true, decide_eq_true_eq] at h'
          rcases h' with h' | rfl
          · exact ih h'
          · exact .inr (hp _ n a ha hq)
        · rw [do_no h9] at h; exact ih h
      · exact ih h
/-- writes that nobody reads can be done later -/
theorem compl_missing (hS : SOk S) {D3 D' : Nat} {v v' : ByteArray} {l : List Nat} (h : Run S D3 v l D' v') (hg : goal S D') {D2 : Nat} {v2 : ByteArray} (hA : ∀ k, D3.testBit k = true → D2.testBit k = false → isW S k ∧ pre S D3 k) (hB : ∀ k, D2.testBit k = true → D3.testBit k = false → isR S k)
    (hl : ∀ u m, l = u :: m → isW S u) : Compl S D2 v2 := by
  let p : St → Nat → Stp → Bool := fun t n a => D3.testBit n && !t.D.testBit n && !a.reads
  let s : St := ⟨D2, v2, []⟩
  have hgo : ∀ n, Goes S s (loopS S p s n) := fun n => (loop_goes (p := p) (s := s) (fun t n a _ _ h _ => by simp [p, h]) (fun t n a h hr => by simp [p, hr] at h) n).1
  have hall := loop_all hgo (fun k => D3.testBit k = true ∧ D2.testBit k = false) (fun n hn k hk => by
      cases hq : D2.testBit k with
      | true => exact .inl rfl
      | false => exact .inr ⟨(hA n hn.1 hn.2).2 k hk, rfl⟩) hS (fun n hn => by obtain ⟨a, ha, _⟩ := (hA n hn.1 hn.2).1; exact ⟨a, ha⟩)
    (fun t n a ha hn hb => by
      obtain ⟨b, hb', hbr⟩ := (hA n hn.1 hn.2).1
      rw [ha] at hb'
      obtain rfl := Option.some.inj hb'
      simp [p, hn.1, hb, hbr]) S.length
  have hin := loop_in (S := S) (s := s) (A := fun k => D3.testBit k = true) (p := p) (fun t n a ha hp => by
      simp only [p, Bool.and_eq_true] at hp; exact hp.1.1) S.length
  generalize ht : loopS S p s S.length = t at *
  have hgt : Goes S s t := by rw [← ht]; exact hgo _
  have h3 : ∀ k, D3.testBit k = true → t.D.testBit k = true := fun k hk => by
    cases hq : D2.testBit k with
    | true => exact hgt.mono hq
    | false =>
      obtain ⟨a, ha, _⟩ := (hA k hk hq).1
      exact hall k (List.getElem?_eq_some_iff.1 ha).1 ⟨hk, hq⟩
  obtain ⟨m, hm, _⟩ := hgt
  cases h with
  | nil => exact ⟨m, t.D, t.v, hm, fun k a ha hc => h3 k (hg k a ha hc)⟩
  | @cons _ _ u a l _ _ ha hd hp hr h =>
    have hw := hl u l rfl
    obtain ⟨b, hb, hbr⟩ := hw
    rw [ha] at hb
    obtain rfl := Option.some.inj hb
    have htu : t.D.testBit u = false := by
      cases hq : t.D.testBit u with
      | false => rfl
      | true =>
        rcases hin u hq with h9 | h9
        · exact (w_not_r ⟨a, ha, hbr⟩ (hB u h9 hd)).elim
        · rw [hd] at h9; cases h9
    obtain ⟨z, D9, v9, q1, q2⟩ := compl_more h hg (t.D ||| 2 ^ u) (fun k hk => by
        rw [bit_or, Bool.or_eq_true] at hk
        rw [bit_or, Bool.or_eq_true]
        exact hk.imp (h3 k) id) (fun k hk hk2 => by
        rw [bit_or, Bool.or_eq_true] at hk
        rw [bit_or, Bool.or_eq_false_iff] at hk2
        rcases hk with hk | hk
        · rcases hin k hk with h9 | h9
          · exact hB k h9 hk2.1
          · rw [hk2.1] at h9; cases h9
        · rw [hk2.2] at hk; cases hk)
    exact ⟨m ++ u :: z, D9, v9, hm.app (.cons ha htu (fun k hk => h3 k (hp k hk)) (fun h9 => by rw [hbr] at h9; cases h9) q1), q2⟩
def wB (S : List Stp) (i : Nat) : Bool := match S[i]? with
  | some a => !a.reads
  | none => false
def rB (S : List Stp) (i : Nat) : Bool := match S[i]? with
  | some a => a.reads
  | none => false
theorem wB_iff {i : Nat} : wB S i = true ↔ isW S i := by
  unfold wB isW
  cases h : S[i]? with
  | none => simp
  | some a => simp
theorem rB_iff {i : Nat} : rB S i = true ↔ isR S i := by
  unfold rB isR
  cases h : S[i]? with
  | none => simp
  | some a => simp
theorem reads_value {D D' : Nat} {v v' : ByteArray} {l : List Nat} (h : Run S D v l D' v') (hr : ∀ k ∈ l, isR S k) : v' = v ∧ ∀ k ∈ l, ∀ a, S[k]? = some a → a.value = v := by
  induction h with
  | nil => simp
  | @cons D v i a l D' v' ha hd hp hrd h ih =>
    obtain ⟨b, hb, hbr⟩ := hr i List.mem_cons_self
    rw [ha] at hb
    obtain rfl := Option.some.inj hb
    have hv := hrd hbr
    obtain ⟨h1, h2⟩ := ih fun k hk => hr k (List.mem_cons_of_mem _ hk)
    refine ⟨h1.trans hv, fun k hk b hb => ?_⟩
    rcases List.mem_cons.1 hk with rfl | hk
    · rw [ha] at hb
      obtain rfl := Option.some.inj hb
      exact hv
    · exact (h2 k hk b hb).trans hv
theorem max_of : ∀ (l : List Nat), l ≠ [] → ∃ r ∈ l, ∀ q ∈ l, q ≤ r
  | [], h => absurd rfl h
  | [x], _ => ⟨x, by simp, by simp⟩
  | x :: y :: l, _ => by
    obtain ⟨r, hr, hm⟩ := max_of (y :: l) (by simp)
    by_cases hx : x ≤ r
    · exact ⟨r, List.mem_cons_of_mem _ hr, fun q hq => by
        rcases List.mem_cons.1 hq with rfl | hq
        · exact hx
        · exact hm q hq⟩
    · exact ⟨x, by simp, fun q hq => by
        rcases List.mem_cons.1 hq with rfl | hq
        · exact Nat.le_refl _
        · have := hm q hq; omega⟩
/-- what a pair leads to -/
def need1 (S : List Stp) (s : St) (w r : Nat) : St := loopS S (needP S s.D w r) s S.length
def pair2 (S : List Stp) (s : St) (w r : Nat) : St := doS S (need1 S s w r) w
def pair3 (S : List Stp) (s : St) (w r : Nat) : St := loopS S readP (pair2 S s w r) S.length
def isPair (S : List Stp) (s : St) (w r : Nat) : Prop := ∃ a b, S[w]? = some a ∧ S[r]? = some b ∧ a.reads = false ∧ b.reads = true ∧ a.value = b.value ∧ s.D.testBit w = false ∧ s.D.testBit r = false
theorem needP_iff {D0 w r n : Nat} {t : St} {a : Stp} (ha : S[n]? = some a) : needP S D0 w r t n a = true ↔ (bf S n w ∨ bf S n r) ∧ D0.testBit n = false ∧ n ≠ w ∧ isW S n := by
  have hn := (List.getElem?_eq_some_iff.1 ha).1
  unfold needP
  simp only [Bool.and_eq_true, Bool.or_eq_true, bef_bit, Bool.not_eq_true', decide_eq_true_eq]
  have hw : isW S n ↔ a.reads = false := ⟨fun ⟨b, hb, hr⟩ => by rw [ha] at hb; rw [Option.some.inj hb]; exact hr, fun h => ⟨a, ha, h⟩⟩
  rw [hw]
  constructor
  · rintro ⟨⟨⟨h1, h2⟩, h3⟩, h4⟩; exact ⟨h1.imp (·.2) (·.2), h2, h3, h4⟩
  · rintro ⟨h1, h2, h3, h4⟩; exact ⟨⟨⟨h1.imp (⟨hn, ·⟩) (⟨hn, ·⟩), h2⟩, h3⟩, h4⟩
theorem need_goes (s : St) (w r : Nat) (n : Nat) : Goes S s (loopS S (needP S s.D w r) s n) ∧ ∀ k, n ≤ k → (loopS S (needP S s.D w r) s n).D.testBit k = s.D.testBit k :=
  loop_goes (fun t n a ha _ hb hs => by
      cases hq : needP S s.D w r t n a with
      | false => rfl
      | true =>
        have := ((needP_iff ha).1 hq).2.1
        rw [hs n (Nat.le_refl _), this] at hb; cases hb) (fun t n a h hr => by simp [needP, hr] at h) n
theorem need_w {s : St} {w r : Nat} (hw : s.D.testBit w = false) (n : Nat) : (loopS S (needP S s.D w r) s n).D.testBit w = false := by
  cases hq : (loopS S (needP S s.D w r) s n).D.testBit w with
  | false => rfl
  | true =>
    rcases loop_in (S := S) (A := fun k => k ≠ w) (fun t n a ha hp => ((needP_iff ha).1 hp).2.2.1) n w hq with h | h
    · rw [hw] at h; cases h
    · exact absurd rfl h
theorem pair_goes {s : St} {w r : Nat} (h : isPair S s w r) : Goes S s (pair3 S s w r) := by
  obtain ⟨a, b, ha, hb, har, hbr, hv, hw, hr⟩ := h
  refine ((need_goes s w r S.length).1.trans ?_).trans (read_goes _ _).1
  exact do_goes ha (need_w hw _) (fun h => by rw [har] at h; cases h)
set_option maxHeartbeats 1000000 in
/-- a state with an end, in which nothing can be read but something is left to be read, has a pair that leads to one with an end -/
theorem pair_exists (hS : SOk S) {s : St} (hmax : ∀ i a, S[i]? = some a → a.reads = true → a.value = s.v → pre S s.D i → s.D.testBit i = true) (hleft : ∃ i, isR S i ∧ s.D.testBit i = false) (hc : Compl S s.D s.v) :
    ∃ w r, isPair S s w r ∧ (pair3 S s w r).D.testBit r = true ∧ Compl S (pair3 S s w r).D (pair3 S s w r).v := by
  obtain ⟨l, D', v', hrun, hg⟩ := hc
  -- the first step that reads
  obtain ⟨α, β, hl, hαw, hβ⟩ : ∃ α β, l = α ++ β ∧ (∀ k ∈ α, isW S k) ∧ (∀ r m, β = r :: m → ¬ isW S r) := by
    refine ⟨l.takeWhile (wB S), l.dropWhile (wB S), List.takeWhile_append_dropWhile.symm, fun k hk => ?_, fun r m hm hw => ?_⟩
    · have := List.all_takeWhile (p := wB S) (l := l)
      rw [List.all_eq_true] at this
      exact wB_iff.1 (this k hk)
    · have := List.head?_dropWhile_not (wB S) l
      rw [hm] at this
      simp only [List.head?_cons] at this
      rw [wB_iff.2 hw] at this
      cases this
  obtain ⟨ρ, τ, hβl, hρr, hτ⟩ : ∃ ρ τ, β = ρ ++ τ ∧ (∀ k ∈ ρ, isR S k) ∧ (∀ u m, τ = u :: m → ¬ isR S u) := by
    refine ⟨β.takeWhile (rB S), β.dropWhile (rB S), List.takeWhile_append_dropWhile.symm, fun k hk => ?_, fun u m hm hu => ?_⟩
    · have := List.all_takeWhile (p := rB S) (l := β)
      rw [List.all_eq_true] at this
      exact rB_iff.1 (this k hk)
    · have := List.head?_dropWhile_not (rB S) β
      rw [hm] at this
      simp only [List.head?_cons] at this
      rw [rB_iff.2 hu] at this
      cases this
  have hnew := hrun.new
  have hβne : β ≠ [] := by
    rintro rfl
    rw [List.append_nil] at hl
    subst hl
    obtain ⟨i, hi, hid⟩ := hleft
    obtain ⟨a, ha, har⟩ := hi
    have h1 := hg i a ha (.inl har)
    rw [hrun.bits, hid] at h1
    rcases h1 with h1 | h1
    · cases h1
    · exact w_not_r (hαw i h1) ⟨a, ha, har⟩
  have hρne : ρ ≠ [] := by
    rintro rfl
    rw [List.nil_append] at hβl
    subst hβl
    cases hq : β with
    | nil => exact hβne hq
    | cons r m =>
      obtain ⟨a, ha⟩ := (hnew.2 r (by rw [hl, hq]; simp)).2
      rcases w_or_r ha with h1 | h1
      · exact hβ r m hq h1
      · exact hτ r m hq h1
  have hαne : α ≠ [] := by
    rintro rfl
    rw [List.nil_append] at hl
    subst hl
    cases hq : ρ with
    | nil => exact hρne hq
    | cons r m =>
      have hb : l = r :: (m ++ τ) := by rw [hβl, hq]; rfl
      rw [hb] at hrun
      cases hrun with
      | @cons _ _ _ a _ _ _ ha hd hp hr _ =>
        obtain ⟨b, hb', hbr⟩ := hρr r (by rw [hq]; simp)
        rw [ha] at hb'
        obtain rfl := Option.some.inj hb'
        have := hmax r a ha hbr (hr hbr) hp
        rw [hd] at this; cases this
  obtain ⟨α0, w, rfl⟩ : ∃ α0 w, α = α0 ++ [w] := ⟨α.dropLast, α.getLast hαne, (List.dropLast_concat_getLast hαne).symm⟩
  subst hl hβl
  obtain ⟨Dw, vw, hrunA, hrunB⟩ := hrun.split
  obtain ⟨Da, va, hrun0, hrunw⟩ := hrunA.split
  obtain ⟨D3, v3, hrunρ, hrunτ⟩ := hrunB.split
  have hDa := hrun0.bits
  have hD3 := hrunρ.bits
  have hpre0 := hrun0.pre
  have hpreρ := hrunρ.pre
  cases hrunw with
  | @cons _ _ _ b _ _ _ hb hwd hwp hwr hrest =>
  cases hrest
  have hDw : ∀ k, (Da ||| 2 ^ w).testBit k = true ↔ Da.testBit k = true ∨ k = w := fun k => by
    rw [bit_or, Bool.or_eq_true, decide_eq_true_eq]
    exact or_congr Iff.rfl ⟨Eq.symm, Eq.symm⟩
  have hbw : b.reads = false := by
    obtain ⟨c, hc, hcr⟩ := hαw w (by simp)
    rw [hb] at hc
    rw [Option.some.inj hc]; exact hcr
  obtain ⟨hv3, hval⟩ := reads_value hrunρ hρr
  obtain ⟨r, hr, hrmax⟩ := max_of ρ hρne
  have hndw : ∀ k ∈ α0, k ≠ w := fun k hk e => by
    subst e
    have := hnew.1
    rw [List.append_assoc, List.nodup_append] at this
    exact this.2.2 k hk k (by simp) rfl
  have hnotD : ∀ k, k ∈ α0 ∨ k = w ∨ k ∈ ρ → s.D.testBit k = false := fun k hk => (hnew.2 k (by
    rcases hk with h | rfl | h
    · simp [h]
    · simp
    · simp [h])).1
  obtain ⟨a, ha, har⟩ := hρr r hr
  have hpair : isPair S s w r := ⟨b, a, hb, ha, hbw, har, (hval r hr a ha).symm, hnotD w (.inr (.inl rfl)), hnotD r (.inr (.inr hr))⟩
  -- what is needed
  have hN : ∀ k, ((bf S k w ∨ bf S k r) ∧ s.D.testBit k = false ∧ k ≠ w ∧ isW S k) ↔ (bf S k w ∨ bf S k r) ∧ k ∈ α0 := fun k => by
    constructor
    · rintro ⟨h1, h2, h3, h4⟩
      refine ⟨h1, ?_⟩
      rcases h1 with h1 | h1
      · rcases (hDa k).1 (hwp k h1) with h5 | h5
        · rw [h2] at h5; cases h5
        · exact h5
      · rcases (hD3 k).1 (hpreρ r hr k h1) with h5 | h5
        · rcases (hDw k).1 h5 with h6 | h6
          · rcases (hDa k).1 h6 with h7 | h7
            · rw [h2] at h7; cases h7
            · exact h7
          · exact absurd h6 h3
        · exact (w_not_r h4 (hρr k h5)).elim
    · rintro ⟨h1, h2⟩
      exact ⟨h1, hnotD k (.inl h2), hndw k h2, hαw k (by simp [h2])⟩
  have hall := loop_all (p := needP S s.D w r) (s := s) (fun n => (need_goes s w r n).1) (fun k => (bf S k w ∨ bf S k r) ∧ k ∈ α0) (fun n hn k hk => by
      rcases (hDa k).1 (hpre0 n hn.2 k hk) with h5 | h5
      · exact .inl h5
      · exact .inr ⟨hn.1.imp (hS.trans hk) (hS.trans hk), h5⟩) hS (fun n hn => by obtain ⟨c, hc, _⟩ := hαw n (by simp [hn.2]); exact ⟨c, hc⟩)
    (fun t n c hc hn _ => (needP_iff hc).2 ((hN n).2 hn)) S.length
  have hin := loop_in (S := S) (p := needP S s.D w r) (s := s) (A := fun k => (bf S k w ∨ bf S k r) ∧ k ∈ α0) (fun t n c hc hp => (hN n).1 ((needP_iff hc).1 hp)) S.length
  have hs1 : Goes S s (need1 S s w r) := (need_goes s w r S.length).1
  have hlt : ∀ k, isW S k → k < S.length := fun k ⟨c, hc, _⟩ => (List.getElem?_eq_some_iff.1 hc).1
  have h1N : ∀ k, (bf S k w ∨ bf S k r) → k ∈ α0 → (need1 S s w r).D.testBit k = true := fun k h1 h2 => hall k (hlt k (hαw k (by simp [h2]))) ⟨h1, h2⟩
  have hpw : pre S (need1 S s w r).D w := fun k hk => by
    rcases (hDa k).1 (hwp k hk) with h5 | h5
    · exact hs1.mono h5
    · exact h1N k (.inl hk) h5
  have hp2 : pair2 S s w r = ⟨(need1 S s w r).D ||| 2 ^ w, b.value, (need1 S s w r).o ++ [w]⟩ := do_yes hb hpw
  have hD2 : ∀ k, (pair2 S s w r).D.testBit k = true ↔ (need1 S s w r).D.testBit k = true ∨ k = w := fun k => by
    rw [hp2]
    show ((need1 S s w r).D ||| 2 ^ w).testBit k = true ↔ _
    rw [bit_or, Bool.or_eq_true, decide_eq_true_eq]
    exact or_congr Iff.rfl ⟨Eq.symm, Eq.symm⟩
  have hv2 : (pair2 S s w r).v = b.value := by rw [hp2]
  have hmono : ∀ n k, (pair2 S s w r).D.testBit k = true → (loopS S readP (pair2 S s w r) n).D.testBit k = true := fun n k hk => (read_goes _ n).1.mono hk
  have hread : ∀ q, q ∈ ρ → pre S (loopS S readP (pair2 S s w r) q).D q := by
    intro q
    induction q using Nat.strongRecOn with
    | _ q ih =>
      intro hq k hk
      rcases (hD3 k).1 (hpreρ q hq k hk) with h5 | h5
      · refine hmono q k ((hD2 k).2 ?_)
        rcases (hDw k).1 h5 with h6 | h6
        · left
          rcases (hDa k).1 h6 with h7 | h7
          · exact hs1.mono h7
          · refine h1N k (.inr ?_) h7
            obtain ⟨x, y, hx, hy, hxy⟩ := hk
            refine ⟨a, y, ha, hy, ?_⟩
            by_cases hqr : q = r
            · subst hqr
              rw [ha] at hx
              obtain rfl := Option.some.inj hx
              exact hxy
            · have := hS.asc q r x a (by have := hrmax q hq; omega) hx ha
              omega
        · exact .inr h6
      · have hkq := hS.lt hk
        obtain ⟨c, hc, hcr⟩ := hρr k h5
        exact read_all _ hc hcr ((hval k h5 c hc).trans hv2.symm) (ih k hkq h5) hkq
  have hdone : ∀ q ∈ ρ, (pair3 S s w r).D.testBit q = true := fun q hq => by
    obtain ⟨c, hc, hcr⟩ := hρr q hq
    exact read_all _ hc hcr ((hval q hq c hc).trans hv2.symm) (hread q hq) (List.getElem?_eq_some_iff.1 hc).1
  refine ⟨w, r, hpair, hdone r hr, ?_⟩
  refine compl_missing hS hrunτ hg (fun k hk hk2 => ?_) (fun k hk hk2 => ?_) (fun u m hm => ?_)
  · have h9 : (pair2 S s w r).D.testBit k = false := by
      cases hq : (pair2 S s w r).D.testBit k with
      | false => rfl
      | true => have := hmono S.length k hq; rw [show loopS S readP (pair2 S s w r) S.length = pair3 S s w r from rfl, hk2] at this; cases this
    rcases (hD3 k).1 hk with h5 | h5
    · rcases (hDw k).1 h5 with h6 | h6
      · rcases (hDa k).1 h6 with h7 | h7
        · have := (hD2 k).2 (.inl (hs1.mono h7)); rw [h9] at this; cases this
        · refine ⟨hαw k (by simp [h7]), fun j hj => (hD3 j).2 (.inl ((hDw j).2 (.inl (hpre0 k h7 j hj))))⟩
      · have := (hD2 k).2 (.inr h6); rw [h9] at this; cases this
    · have := hdone k h5; rw [hk2] at this; cases this
  · cases hq : (pair2 S s w r).D.testBit k with
    | false => exact (read_only _ S.length).2 k hk hq
    | true =>
      exfalso
      have : D3.testBit k = true := by
        refine (hD3 k).2 (.inl ((hDw k).2 ?_))
        rcases (hD2 k).1 hq with h5 | h5
        · left
          rcases hin k h5 with h6 | h6
          · exact (hDa k).2 (.inl h6)
          · exact (hDa k).2 (.inr h6.2)
        · exact .inr h5
      rw [hk2] at this; cases this
  · obtain ⟨c, hc⟩ := (hrunτ.new.2 u (by rw [hm]; simp)).2
    rcases w_or_r hc with h1 | h1
    · exact h1
    · exact absurd h1 (hτ u m hm)
end
end Go.Proofs.YtnmhnjjehglcfaaGreat.SrchM

/- The walk of the document's alone: the events of a block as events of the block 0. -/
namespace Go.Proofs.YtnmhnjjehglcfaaGreat.LinMath
open HisMath
end Go.Proofs.YtnmhnjjehglcfaaGreat.LinMath
namespace Go.Proofs.YtnmhnjjehglcfaaGreat.Ents
open Go.RowKit Plan HisMath LinMath Rws Env LayMath
end Go.Proofs.YtnmhnjjehglcfaaGreat.Ents

/- The walks of the document's Run and Same of blocks. -/
namespace Go.Proofs.YtnmhnjjehglcfaaGreat.ModMath
end Go.Proofs.YtnmhnjjehglcfaaGreat.ModMath
namespace Go.Proofs.YtnmhnjjehglcfaaGreat.Ents
open Go.RowKit Plan ModMath CmdMath Rws Env LayMath
def RPost (w : World) (F : Nat → Prop) (L : List ByteArray) (X : List Res) (r : Ending) (w' : World) : Prop :=
  ∃ a n c b m d, r = .returned (.tuple #[.slice a n c, .slice b m d]) ∧ SList w' (fun b => F b ∨ w.heap.size ≤ b) a n c L ∧ OList w' (fun b => F b ∨ w.heap.size ≤ b) b m d X ∧ Below w.heap.size w w'
set_option maxHeartbeats 8000000 in
set_option maxRecDepth 20000 in
theorem refBSame_any (F G : Nat → Prop) (B : List ByteArray) (a b : Option Addr) (n c m d : Nat) (w : World) (hl : SList w F a n c B) (hk : SList w G b m d B) :
    Calls Tryz.prog 21 #[.slice a n c, .slice b m d] w fun r w' => r = .returned (.bool true) ∧ Below w.heap.size w w' := by
  have hlen := hl.length
  obtain rfl : n = m := hlen.symm.trans hk.length
  have hmx : n ≤ maxLen := Nat.le_trans hl.cap.1 hl.cap.2
  unfold maxLen at hmx
  have HA := Lib.hid (fun W (h : Below w.heap.size w W) i (hi : i < n) => str_at (hl.same h) i hi)
  have HB := Lib.hid (fun W (h : Below w.heap.size w W) i (hi : i < n) => str_at (hk.same h) i hi)
  have hb := Below.refl w.heap.size w
  clear hl hk
  go_enter Tryz.func21, Tryz.ntmps21
  go_wp2_with fail
  go_loopw [5] (fun x wr => ∃ j : Nat, x = .int .i64 (j : Int) ∧ j ≤ n ∧ Below w.heap.size w wr) (fun x _ => n - (intOf x).toNat)
  case atStart => exact ⟨0, rfl, by omega, hb⟩
  case round =>
    clear hb
    obtain ⟨j, rfl, hj, hb⟩ := hrel
    by_cases hlt : j < n
    · obtain ⟨x, e, rfl, he, hat⟩ := HA.out wr hb j hlt
      obtain ⟨y, f, rfl, hf, haf⟩ := HB.out wr hb j hlt
      rw [he] at hf
      obtain rfl := Option.some.inj hf
      have hjI : (j : Int) < (n : Int) := by omega
      clear hf he
      go_upto_region 6 with fail
      refine Plan.start (fun W => W.cell? (x.add j) = some (.string e) ∧ W.cell? (y.add j) = some (.string e)) [(0, true), (1, true), (2, true), (3, true), (4, true), (5, true), (6, true), (7, true), (8, true)] (by kernel_rfl) (by kernel_rfl) (by kernel_rfl) (by kernel_rfl) ⟨hat, haf⟩ ?_
      simp only [List.map_cons, List.map_nil, List.getElem?_toArray, List.getElem?_cons_zero, List.getElem?_cons_succ]
      repeat (first | (refine Plan.take ?_ (by rfl) ?_ ?_; rotate_left; (· rintro w9 ⟨u0, u1⟩; go_simp; (try rw [if_neg (by omega)]); all_goals (with_reducible rfl)); simp only [Act.put, List.setIfInBounds_toArray, List.set_cons_zero, List.set_cons_succ]) | (refine Plan.pass (by rfl) ?_; simp only [Act.put, List.setIfInBounds_toArray, List.set_cons_zero, List.set_cons_succ]))
      refine Plan.ends ?_
      replace hb := hb.drew
      clear hat haf
      go_wp2_with fail
      go_roundw
      case rel => exact ⟨j + 1, by go_num, by omega, hb⟩
      case measure => simp [intOf]; omega
    · obtain rfl : j = n := by omega
      go_wp2_with fail
      go_ret
      exact ⟨rfl, hb⟩
end Go.Proofs.YtnmhnjjehglcfaaGreat.Ents

/- What the program promises of blocks; the walks of the laws' light and awake. -/
namespace Go.Proofs.YtnmhnjjehglcfaaGreat.ModMath
open Go Go.RowKit
end Go.Proofs.YtnmhnjjehglcfaaGreat.ModMath
namespace Go.Proofs.YtnmhnjjehglcfaaGreat.Ents
open Go.RowKit Plan ModMath CmdMath Rws Env LayMath
structure ModelOk : Prop where
  new : ∀ (n : Int) (w : World), Calls Tryz.prog 107 #[.int .i64 n] w (SPost w (fun _ => False) (newB n))
  apply : ∀ (F : Nat → Prop) (B : List ByteArray) (a : Option Addr) (n c : Nat) (k b : Int) (s : ByteArray) (w : World), SList w F a n c B → n ≤ 8796093022208 →
    Calls Tryz.prog 106 #[.slice a n c, cmdV k b s] w (APost w F (applyB B ⟨k, b, s⟩) (applyR B ⟨k, b, s⟩))
  run : ∀ (F F2 : Nat → Prop) (B : List ByteArray) (l : List Cmd) (a b : Option Addr) (n c m d : Nat) (w : World), SList w F a n c B → CList' w F2 b m d l → n ≤ 8796093022208 → m ≤ 100000 →
    Calls Tryz.prog 98 #[.slice a n c, .slice b m d] w (RPost w F (runB B l) (runR B l))
end Go.Proofs.YtnmhnjjehglcfaaGreat.Ents

/- The walk of the law's sanity check of blocks. -/
namespace Go.Proofs.YtnmhnjjehglcfaaGreat.ModMath
open CmdMath
end Go.Proofs.YtnmhnjjehglcfaaGreat.ModMath
namespace Go.Proofs.YtnmhnjjehglcfaaGreat.Ents
open Go.RowKit Plan ModMath CmdMath Rws Env LayMath
end Go.Proofs.YtnmhnjjehglcfaaGreat.Ents
