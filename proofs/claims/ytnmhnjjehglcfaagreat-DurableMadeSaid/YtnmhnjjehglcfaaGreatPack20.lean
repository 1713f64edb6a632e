/- Texts that belong together, part 20. -/
import Derived.Test.YtnmhnjjehglcfaaGreatPack19

/- The walk of the document's put: an ascending list of strings with a further one. -/
namespace Go.Proofs.YtnmhnjjehglcfaaGreat.LinMath
open HisMath ModMath
def lessB (a b : ByteArray) : Bool := Op.bytesLess a.toList b.toList
def putK (L : List ByteArray) (v : ByteArray) : Nat → List ByteArray
  | 0 => v :: L
  | k + 1 => match L[k]? with
    | some s => if lessB s v then L.take (k + 1) ++ v :: L.drop (k + 1) else if s = v then L else putK L v k
    | none => L
def putE (L : List ByteArray) (v : ByteArray) : List ByteArray := putK L v L.length
theorem putK_less {L : List ByteArray} {v s : ByteArray} {i k : Nat} (hk : i + 1 = k) (hs : L[i]? = some s) (h : lessB s v = true) : putK L v k = L.take k ++ v :: L.drop k := by
  subst hk; simp [putK, hs, h]
theorem putK_same {L : List ByteArray} {v s : ByteArray} {i k : Nat} (hk : i + 1 = k) (hs : L[i]? = some s) (h : lessB s v = false) (he : s = v) : putK L v k = L := by
  subst hk; subst he; simp [putK, hs, h]
theorem putK_next {L : List ByteArray} {v s : ByteArray} {i k : Nat} (hk : i + 1 = k) (hs : L[i]? = some s) (h : lessB s v = false) (he : ¬ s = v) : putK L v k = putK L v i := by
  subst hk; simp [putK, hs, h, he]
end Go.Proofs.YtnmhnjjehglcfaaGreat.LinMath
namespace Go.Proofs.YtnmhnjjehglcfaaGreat.Ents
open Go.RowKit Plan HisMath LinMath ModMath Rws Env LayMath
theorem rest_any {α : Type} {R : Row α} (hR : R.Ok) {w : World} {F : Nat → Prop} {x : Addr} {n c k : Nat} {L : List α} (h : TList R w F (some x) n c L) (hk : k ≤ n) : TList R w F (if c = k then some x else some (x.add (k * R.sz))) (n - k) (c - k) (L.drop k) := by
  have hcp := h.cap
  have hl := h.length
  have hh := h
  rcases hh with ⟨_, rfl, rfl, rfl⟩ | ⟨y, h1, h2, h3, h4, h5, h6, h7⟩
  · obtain rfl : k = 0 := by omega
    exact .inl ⟨trivial, rfl, rfl, by simp⟩
  · obtain rfl := Option.some.inj h1
    by_cases hc : c = k
    · rw [if_pos hc]
      have h0 : L.drop k = [] := List.length_eq_zero_iff.1 (by rw [List.length_drop]; omega)
      rw [h0]
      refine .inr ⟨_, rfl, by omega, by omega, by simp; omega, h5, h6, fun j u hu => ?_⟩
      simp [Row.all] at hu
    · rw [if_neg hc]
      by_cases hn : 0 < n
      · exact h.back hR k hk hn
      · have h0 : L.drop k = [] := List.length_eq_zero_iff.1 (by rw [List.length_drop]; omega)
        rw [h0]
        refine .inr ⟨_, rfl, by omega, by omega, by simp; omega, by rw [ent_add_block]; exact h5, by rw [ent_add_block]; exact h6, fun j u hu => ?_⟩
        simp [Row.all] at hu
theorem str_ge {s v : ByteArray} {b : Bool} (h : Op.bytesLess s.toList v.toList = b) (W : World) : (Go.binOp .geq 9 (Value.string s) (Value.string v)).run Tryz.prog W = .ok (.bool (!b)) W := by
  subst h
  simp [Go.binOp, Op.stringOp]
set_option maxHeartbeats 8000000 in
set_option maxRecDepth 20000 in
theorem refPutS_any (F : Nat → Prop) (L : List ByteArray) (v : ByteArray) (a : Option Addr) (n c : Nat) (w : World) (hl : SList w F a n c L) (hm : n ≤ 400000) :
    Calls Tryz.prog 82 #[.slice a n c, .string v] w (SPost w F (putE L v)) := by
  have hlen := hl.length
  obtain ⟨hcp, hcm⟩ := hl.cap
  unfold maxLen at hcm
  have HAT := Lib.hid (fun W (h : Below w.heap.size w W) i (hi : i < n) => str_at (hl.same h) i hi)
  have HL := Lib.hid (fun W (h : Below w.heap.size w W) => hl.same h)
  have HF := Lib.hid (fun W (h : Below w.heap.size w W) => (hl.on (⟨h.size, fun b _ hlt => h.block b hlt⟩ : Same F w W)).mono (fun b _ hb => (show F b ∨ w.heap.size ≤ b from .inl hb)))
  have HR := Lib.hid (show putK L v n = putE L v by unfold putE; rw [hlen])
  generalize putE L v = R at *
  have K := Env.start w
  unfold SPost
  clear hl
  go_enter Tryz.func82, Tryz.ntmps82
  go_wp2_with fail
  go_loopw [5] (fun x wr => ∃ k : Nat, x = .int .i64 (k : Int) ∧ k ≤ n ∧ RowKit.Hid (putK L v k = R) ∧ Env w wr []) (fun x _ => (intOf x).toNat)
  case atStart => exact ⟨n, rfl, by omega, HR, K⟩
  case round =>
    clear K HR
    obtain ⟨k, rfl, hk, HR, K⟩ := hrel
    by_cases h0 : k = 0
    · subst h0
      have e1 : decide ((0 : Int) < ((0 : Nat) : Int)) = false := rfl
      have hR : v :: L = R := HR.out
      cases a with
      | none =>
        have hnn : n = 0 ∧ c = 0 ∧ L = [] := (HL.out w (Below.refl _ _)).none
        obtain ⟨rfl, rfl, rfl⟩ := hnn
        have KA := K.empty SR
        have l1 := (HL.out _ KA.hb).front srOk 0 hk
        go_wp2_with (first
          | (refine KA.apps_list srOk rfl (.tmp 30) (.tmp 33) rfl 0 rfl rfl rfl l1 (by omega) ?_; intro gA cA w1 K1 _; simp only [List.set, Nat.zero_add, List.nil_append] at K1; simp only [Nat.zero_add, Act.put, List.setIfInBounds_toArray, List.set_cons_zero, List.set_cons_succ]; clear l1 KA; have KB := K1.al (.cells #[.string v] 9); clear K1)
          | (refine KB.apps_one srOk rfl (.tmp 35) (.tmp 37) rfl 1 0 rfl rfl (e := v) rfl rfl (by omega) ?_; intro gB cB w2 K2 _; simp only [List.set] at K2; simp only [Act.put, List.setIfInBounds_toArray, List.set_cons_zero, List.set_cons_succ]; clear KB; have l2 := HL.out _ K2.hb)
          | (refine K2.apps_list srOk rfl (.tmp 39) (.tmp 42) rfl 1 rfl rfl rfl ((TList.nil _ (fun _ => False))) (by omega) ?_; intro gC cC w3 K3 _; simp only [List.set] at K3; simp only [Act.put, List.setIfInBounds_toArray, List.set_cons_zero, List.set_cons_succ]; clear K2 l2))
        go_ret
        have l3 := K3.list srOk 1 rfl
        have hq : List.take 0 [] ++ [v] ++ [] = R := by rw [← hR]; simp
        rw [hq] at l3
        exact ⟨_, _, _, rfl, l3.mono (fun b _ h => .inr h), K3.hb⟩
      | some x =>
        by_cases hc9 : c = 0
        · have hnk : 0 = n := by omega
          subst hnk
          have hc9s := hc9.symm
          subst hc9s
          have KA := K.empty SR
          have l1 := (HL.out _ KA.hb).front srOk 0 hk
          go_wp2_with (first
            | (refine KA.apps_list srOk rfl (.tmp 30) (.tmp 33) rfl 0 rfl rfl rfl l1 (by omega) ?_; intro gA cA w1 K1 _; simp only [List.set, Nat.zero_add, List.nil_append] at K1; simp only [Nat.zero_add, Act.put, List.setIfInBounds_toArray, List.set_cons_zero, List.set_cons_succ]; clear l1 KA; have KB := K1.al (.cells #[.string v] 9); clear K1)
            | (refine KB.apps_one srOk rfl (.tmp 35) (.tmp 37) rfl 1 0 rfl rfl (e := v) rfl rfl (by omega) ?_; intro gB cB w2 K2 _; simp only [List.set] at K2; simp only [Act.put, List.setIfInBounds_toArray, List.set_cons_zero, List.set_cons_succ]; clear KB; have l2 := HL.out _ K2.hb)
            | (refine K2.apps_list srOk rfl (.tmp 39) (.tmp 42) rfl 1 rfl rfl rfl (show TList SR _ _ (some x) 0 0 (L.drop 0) from by have h9 := rest_any srOk l2 (Nat.le_refl 0); rw [if_pos rfl, Nat.sub_self] at h9; exact h9) (by omega) ?_; intro gC cC w3 K3 _; simp only [List.set] at K3; simp only [Act.put, List.setIfInBounds_toArray, List.set_cons_zero, List.set_cons_succ]; clear K2 l2))
          go_ret
          have l3 := K3.list srOk 1 rfl
          have hq : List.take 0 L ++ [v] ++ List.drop 0 L = R := by rw [← hR]; simp
          rw [hq] at l3
          exact ⟨_, _, _, rfl, l3.mono (fun b _ h => .inr h), K3.hb⟩
        · have hc8 : 0 < c := by omega
          have KA := K.empty SR
          have l1 := (HL.out _ KA.hb).front srOk 0 hk
          go_wp2_with (first
            | (refine KA.apps_list srOk rfl (.tmp 30) (.tmp 33) rfl 0 rfl rfl rfl l1 (by omega) ?_; intro gA cA w1 K1 _; simp only [List.set, Nat.zero_add, List.nil_append] at K1; simp only [Nat.zero_add, Act.put, List.setIfInBounds_toArray, List.set_cons_zero, List.set_cons_succ]; clear l1 KA; have KB := K1.al (.cells #[.string v] 9); clear K1)
            | (refine KB.apps_one srOk rfl (.tmp 35) (.tmp 37) rfl 1 0 rfl rfl (e := v) rfl rfl (by omega) ?_; intro gB cB w2 K2 _; simp only [List.set] at K2; simp only [Act.put, List.setIfInBounds_toArray, List.set_cons_zero, List.set_cons_succ]; clear KB; have l2 := HL.out _ K2.hb)
            | (refine K2.apps_list srOk rfl (.tmp 39) (.tmp 42) rfl 1 rfl rfl rfl (show TList SR _ _ (some (x.add 0)) (n - 0) (c - 0) (L.drop 0) from by have h9 := rest_any srOk l2 hk; rw [if_neg hc9, show SR.sz = 1 from rfl, Nat.mul_one] at h9; exact h9) (by omega) ?_; intro gC cC w3 K3 _; simp only [List.set] at K3; simp only [Act.put, List.setIfInBounds_toArray, List.set_cons_zero, List.set_cons_succ]; clear K2 l2))
          go_ret
          have l3 := K3.list srOk 1 rfl
          have hq : List.take 0 L ++ [v] ++ List.drop 0 L = R := by rw [← hR]; simp
          rw [hq] at l3
          exact ⟨_, _, _, rfl, l3.mono (fun b _ h => .inr h), K3.hb⟩
    · obtain ⟨i, hi⟩ : ∃ i, i + 1 = k := ⟨k - 1, by omega⟩
      obtain ⟨x, s, rfl, hs, hc⟩ := HAT.out wr K.hb i (by omega)
      have h1 : (0 : Int) < (k : Int) := by omega
      have e1 : decide ((0 : Int) < (k : Int)) = true := decide_eq_true h1
      have hw1 : IntKind.i64.wrap ((k : Int) - 1) = (i : Int) := by rw [IntWalk.i64_in _ (by omega)]; omega
      have hin : (i : Int) < (n : Int) := by omega
      cases hls : lessB s v with
      | true =>
        have HR2 := (putK_less hi hs hls).symm.trans HR.out
        unfold lessB at hls
        have hge := str_ge hls
        simp only [Bool.not_true] at hge
        clear HR hs h0
        by_cases hc9 : c = k
        · have hnk : k = n := by omega
          subst hnk
          have hc9s := hc9.symm
          subst hc9s
          have KA := K.empty SR
          have l1 := (HL.out _ KA.hb).front srOk k hk
          go_wp2_with (first
            | (refine KA.apps_list srOk rfl (.tmp 30) (.tmp 33) rfl 0 rfl rfl rfl l1 (by omega) ?_; intro gA cA w1 K1 _; simp only [List.set, Nat.zero_add, List.nil_append] at K1; simp only [Nat.zero_add, Act.put, List.setIfInBounds_toArray, List.set_cons_zero, List.set_cons_succ]; clear l1 KA; have KB := K1.al (.cells #[.string v] 9); clear K1)
            | (refine KB.apps_one srOk rfl (.tmp 35) (.tmp 37) rfl 1 0 rfl rfl (e := v) rfl rfl (by omega) ?_; intro gB cB w2 K2 _; simp only [List.set] at K2; simp only [Act.put, List.setIfInBounds_toArray, List.set_cons_zero, List.set_cons_succ]; clear KB; have l2 := HL.out _ K2.hb)
            | (refine K2.apps_list srOk rfl (.tmp 39) (.tmp 42) rfl 1 rfl rfl rfl (show TList SR _ _ (some x) 0 0 (L.drop k) from by have h9 := rest_any srOk l2 (Nat.le_refl k); rw [if_pos rfl, Nat.sub_self] at h9; exact h9) (by omega) ?_; intro gC cC w3 K3 _; simp only [List.set] at K3; simp only [Act.put, List.setIfInBounds_toArray, List.set_cons_zero, List.set_cons_succ]; clear K2 l2))
          go_ret
          have l3 := K3.list srOk 1 rfl
          have hq : List.take k L ++ [v] ++ List.drop k L = R := by rw [← HR2]; simp
          rw [hq] at l3
          exact ⟨_, _, _, rfl, l3.mono (fun b _ h => .inr h), K3.hb⟩
        · have hc8 : k < c := by omega
          have KA := K.empty SR
          have l1 := (HL.out _ KA.hb).front srOk k hk
          go_wp2_with (first
            | (refine KA.apps_list srOk rfl (.tmp 30) (.tmp 33) rfl 0 rfl rfl rfl l1 (by omega) ?_; intro gA cA w1 K1 _; simp only [List.set, Nat.zero_add, List.nil_append] at K1; simp only [Nat.zero_add, Act.put, List.setIfInBounds_toArray, List.set_cons_zero, List.set_cons_succ]; clear l1 KA; have KB := K1.al (.cells #[.string v] 9); clear K1)
            | (refine KB.apps_one srOk rfl (.tmp 35) (.tmp 37) rfl 1 0 rfl rfl (e := v) rfl rfl (by omega) ?_; intro gB cB w2 K2 _; simp only [List.set] at K2; simp only [Act.put, List.setIfInBounds_toArray, List.set_cons_zero, List.set_cons_succ]; clear KB; have l2 := HL.out _ K2.hb)
            | (refine K2.apps_list srOk rfl (.tmp 39) (.tmp 42) rfl 1 rfl rfl rfl (show TList SR _ _ (some (x.add k)) (n - k) (c - k) (L.drop k) from by have h9 := rest_any srOk l2 hk; rw [if_neg hc9, show SR.sz = 1 from rfl, Nat.mul_one] at h9; exact h9) (by omega) ?_; intro gC cC w3 K3 _; simp only [List.set] at K3; simp only [Act.put, List.setIfInBounds_toArray, List.set_cons_zero, List.set_cons_succ]; clear K2 l2))
          go_ret
          have l3 := K3.list srOk 1 rfl
          have hq : List.take k L ++ [v] ++ List.drop k L = R := by rw [← HR2]; simp
          rw [hq] at l3
          exact ⟨_, _, _, rfl, l3.mono (fun b _ h => .inr h), K3.hb⟩
      | false =>
        by_cases hsv : s = v
        · have HR2 := (putK_same hi hs hls hsv).symm.trans HR.out
          unfold lessB at hls
          have hge := str_ge hls
          simp only [Bool.not_false] at hge
          have d1 : (s.toList == v.toList) = true := by rw [hsv]; simp
          clear HR hs h0 hsv
          go_wp2_with fail
          go_ret
          rw [← HR2]
          exact ⟨_, _, _, rfl, HF.out _ K.hb, K.hb⟩
        · have HR2 := Lib.hid ((putK_next hi hs hls hsv).symm.trans HR.out)
          have d1 := ba_ne hsv
          have d2 := bal_ne hsv
          unfold lessB at hls
          have hge := str_ge hls
          simp only [Bool.not_false] at hge
          clear HR hs
          go_wp2_with fail

          go_roundw
          case rel => exact ⟨i, by go_num, by omega, HR2, K⟩
          case measure => simp [intOf]; omega
end Go.Proofs.YtnmhnjjehglcfaaGreat.Ents

/- The order of strings, and what put makes of an ascending list. Plain mathematics. -/
namespace Go.Proofs.YtnmhnjjehglcfaaGreat.LinMath
open HisMath ModMath
theorem bl_irr : ∀ (x : List UInt8), Op.bytesLess x x = false
  | [] => rfl
  | a :: x => by simp [Op.bytesLess, bl_irr x]
theorem bl_trans : ∀ {x y z : List UInt8}, Op.bytesLess x y = true → Op.bytesLess y z = true → Op.bytesLess x z = true
  | _, [], _, h, _ => by simp [Op.bytesLess] at h
  | _, _ :: _, [], _, h => by simp [Op.bytesLess] at h
  | [], _ :: _, _ :: _, _, _ => by simp [Op.bytesLess]
  | a :: x, b :: y, c :: z, h1, h2 => by
    simp only [Op.bytesLess, Bool.or_eq_true, Bool.and_eq_true, decide_eq_true_eq, beq_iff_eq] at h1 h2 ⊢
    rcases h1 with h1 | ⟨rfl, h1⟩
    · rcases h2 with h2 | ⟨rfl, h2⟩
      · exact .inl (UInt8.lt_trans h1 h2)
      · exact .inl h1
    · rcases h2 with h2 | ⟨rfl, h2⟩
      · exact .inl h2
      · exact .inr ⟨rfl, bl_trans h1 h2⟩
theorem bl_total : ∀ {x y : List UInt8}, Op.bytesLess x y = false → Op.bytesLess y x = false → x = y
  | [], [], _, _ => rfl
  | [], _ :: _, h, _ => by simp [Op.bytesLess] at h
  | _ :: _, [], _, h => by simp [Op.bytesLess] at h
  | a :: x, b :: y, h1, h2 => by
    simp only [Op.bytesLess, Bool.or_eq_false_iff, decide_eq_false_iff_not, Bool.and_eq_false_iff, beq_eq_false_iff_ne] at h1 h2
    have hab : a = b := by
      have := UInt8.lt_or_lt_of_ne (a := a) (b := b)
      by_cases h : a = b
      · exact h
      · rcases this h with h | h
        · exact absurd h h1.1
        · exact absurd h h2.1
    subst hab
    rcases h1.2 with h | h
    · exact absurd rfl h
    · rcases h2.2 with h' | h'
      · exact absurd rfl h'
      · rw [bl_total h h']
theorem less_irr (x : ByteArray) : lessB x x = false := bl_irr _
theorem less_trans {x y z : ByteArray} (h1 : lessB x y = true) (h2 : lessB y z = true) : lessB x z = true := bl_trans h1 h2
theorem less_total {x y : ByteArray} (h1 : lessB x y = false) (h2 : lessB y x = false) : x = y := by
  have := bl_total h1 h2
  rw [Lib.toList_data, Lib.toList_data] at this
  obtain ⟨⟨a⟩⟩ := x
  obtain ⟨⟨b⟩⟩ := y
  have h3 : a = b := this
  rw [h3]
def AscS (L : List ByteArray) : Prop := L.Pairwise (fun a b => lessB a b = true)
theorem asc_only : ∀ {xs ys : List ByteArray}, AscS xs → AscS ys → (∀ x, x ∈ xs ↔ x ∈ ys) → xs = ys
  | [], [], _, _, _ => rfl
  | [], y :: ys, _, _, h => by have := (h y).2 (by simp); cases this
  | x :: xs, [], _, _, h => by have := (h x).1 (by simp); cases this
  | x :: xs, y :: ys, h1, h2, h => by
    unfold AscS at h1 h2
    rw [List.pairwise_cons] at h1 h2
    have hxy : x = y := by
      rcases List.mem_cons.1 ((h x).1 (by simp)) with a | a
      · exact a
      · rcases List.mem_cons.1 ((h y).2 (by simp)) with b | b
        · exact b.symm
        · have p := less_trans (h1.1 y b) (h2.1 x a)
          rw [less_irr] at p; cases p
    subst hxy
    congr 1
    refine asc_only h1.2 h2.2 fun z => ⟨fun hz => ?_, fun hz => ?_⟩
    · rcases List.mem_cons.1 ((h z).1 (List.mem_cons_of_mem _ hz)) with a | a
      · subst a; have p := h1.1 z hz; rw [less_irr] at p; cases p
      · exact a
    · rcases List.mem_cons.1 ((h z).2 (List.mem_cons_of_mem _ hz)) with a | a
      · subst a; have p := h2.1 z hz; rw [less_irr] at p; cases p
      · exact a
theorem putK_asc {L : List ByteArray} {v : ByteArray} (hL : AscS L) : ∀ (k : Nat), k ≤ L.length → (∀ x ∈ L.drop k, lessB v x = true) → AscS (putK L v k) ∧ ∀ x, x ∈ putK L v k ↔ x = v ∨ x ∈ L := by
  intro k
  induction k with
  | zero =>
    intro _ hd
    refine ⟨List.pairwise_cons.2 ⟨hd, hL⟩, fun x => ?_⟩
    simp [putK]
  | succ k ih =>
    intro hk hd
    have hs : L[k]? = some (L[k]'(by omega)) := List.getElem?_eq_getElem _
    have hcut : L.drop k = L[k]'(by omega) :: L.drop (k + 1) := (List.getElem_cons_drop (by omega)).symm
    generalize L[k]'(by omega) = s at hs hcut
    have hta : L.take (k + 1) = L.take k ++ [s] := by
      rw [List.take_add_one, hs]; rfl
    have hwhole : L.take (k + 1) ++ L.drop (k + 1) = L := List.take_append_drop _ _
    cases hl : lessB s v with
    | true =>
      rw [putK_less rfl hs hl]
      have hL' := hL
      unfold AscS at hL' ⊢
      rw [← hwhole, List.pairwise_append] at hL'
      have hlt : ∀ x ∈ L.take (k + 1), lessB x v = true := fun x hx => by
        rw [hta] at hx hL'
        rcases List.mem_append.1 hx with h | h
        · exact less_trans ((List.pairwise_append.1 hL'.1).2.2 x h s (by simp)) hl
        · rw [List.mem_singleton.1 h]; exact hl
      refine ⟨List.pairwise_append.2 ⟨hL'.1, List.pairwise_cons.2 ⟨hd, hL'.2.1⟩, fun x hx y hy => ?_⟩, fun x => ?_⟩
      · rcases List.mem_cons.1 hy with h | h
        · rw [h]; exact hlt x hx
        · exact hL'.2.2 x hx y h
      · conv => rhs; rw [← hwhole]
        simp only [List.mem_append, List.mem_cons]
        constructor
        · rintro (h | h | h)
          · exact .inr (.inl h)
          · exact .inl h
          · exact .inr (.inr h)
        · rintro (h | h | h)
          · exact .inr (.inl h)
          · exact .inl h
          · exact .inr (.inr h)
    | false =>
      by_cases he : s = v
      · rw [putK_same rfl hs hl he]
        refine ⟨hL, fun x => ⟨.inr, fun h => ?_⟩⟩
        rcases h with h | h
        · rw [h, ← he]; exact List.mem_of_getElem? hs
        · exact h
      · rw [putK_next rfl hs hl he]
        refine ih (by omega) fun x hx => ?_
        rw [hcut] at hx
        rcases List.mem_cons.1 hx with h | h
        · rw [h]
          cases hv : lessB v s with
          | true => rfl
          | false => exact absurd (less_total hl hv) he
        · exact hd x h
theorem put_asc {L : List ByteArray} {v : ByteArray} (hL : AscS L) : AscS (putE L v) ∧ ∀ x, x ∈ putE L v ↔ x = v ∨ x ∈ L :=
  putK_asc hL L.length (Nat.le_refl _) (by simp)
end Go.Proofs.YtnmhnjjehglcfaaGreat.LinMath

/- Which values a block takes on the way of a search: finitely many, of 16 bytes. Plain mathematics. -/
namespace Go.Proofs.YtnmhnjjehglcfaaGreat.LinMath
open HisMath ModMath CmdMath
def valsL (v0 : ByteArray) (O : List Ev) : List ByteArray := v0 :: zeroC :: O.map (·.data)
theorem next_vals {x : Ev} {v v' : ByteArray} (h : nextV x v = some v') : (v' = v ∨ v' = x.data ∨ v' = zeroC) ∧ (v.size = 16 → v'.size = 16) := by
  have h1 := (next_is.1 h).1
  unfold applyB at h1
  by_cases he : errM [v] (cmdOf x) = 0
  · rw [if_neg (fun h => h he)] at h1
    split at h1
    · rename_i hk
      have hz : checkC 1 (cmdOf x).kind (cmdOf x).block (cmdOf x).data.size = 0 := he
      have h16 : x.data.size = 16 := by
        have hk' : x.kind = 2 := hk
        unfold checkC at hz
        simp only [cmdOf, hk'] at hz
        split at hz
        · omega
        · split at hz
          · omega
          · split at hz
            · omega
            · rename_i h3
              by_cases hq : x.data.size = 16
              · exact hq
              · exact absurd (Or.inl ⟨trivial, by simpa using hq⟩) h3
      cases hb : (cmdOf x).block.toNat with
      | zero =>
        rw [hb] at h1
        obtain rfl : x.data = v' := by simpa [cmdOf] using h1
        exact ⟨.inr (.inl rfl), fun _ => h16⟩
      | succ n =>
        rw [hb] at h1
        obtain rfl : v = v' := by simpa using h1
        exact ⟨.inl rfl, fun h => h⟩
    · split at h1
      · cases hb : (cmdOf x).block.toNat with
        | zero =>
          rw [hb] at h1
          obtain rfl : zeroC = v' := by simpa using h1
          exact ⟨.inr (.inr rfl), fun _ => rfl⟩
        | succ n =>
          rw [hb] at h1
          obtain rfl : v = v' := by simpa using h1
          exact ⟨.inl rfl, fun h => h⟩
      · obtain rfl : v = v' := by simpa using h1
        exact ⟨.inl rfl, fun h => h⟩
  · rw [if_pos he] at h1
    obtain rfl : v = v' := by simpa using h1
    exact ⟨.inl rfl, fun h => h⟩
theorem next_in {v0 v v' : ByteArray} {O : List Ev} {i : Nat} {x : Ev} (hx : O[i]? = some x) (h : nextV x v = some v') (hv : v ∈ valsL v0 O) : v' ∈ valsL v0 O := by
  rcases (next_vals h).1 with rfl | rfl | rfl
  · exact hv
  · exact List.mem_cons_of_mem _ (List.mem_cons_of_mem _ (List.mem_map.2 ⟨x, List.mem_of_getElem? hx, rfl⟩))
  · exact List.mem_cons_of_mem _ List.mem_cons_self
theorem path_in {L O : List Ev} {v0 v u : ByteArray} {D D' : Nat} {l : List Int} (h : Path L O D v l D' u) (hv : v ∈ valsL v0 O) : u ∈ valsL v0 O := by
  induction h with
  | nil D v => exact hv
  | cons hx hc hn _ ih => exact ih (next_in hx hn hv)
theorem ends_in {L O : List Ev} {v0 v u : ByteArray} {D : Nat} (h : Ends L O D v u) (hv : v ∈ valsL v0 O) : u ∈ valsL v0 O := by
  obtain ⟨l, D', h, _⟩ := h
  exact path_in h hv
end Go.Proofs.YtnmhnjjehglcfaaGreat.LinMath

/- The walks of the document's Put and Single. -/
namespace Go.Proofs.YtnmhnjjehglcfaaGreat.LinMath
open HisMath
def singleB (v : ByteArray) (L : List Ev) : Bool := decide (sizesE [v] L = 0) && decide (restE L 0 = L) && decide ((opsE L L.length).length ≤ 20)
end Go.Proofs.YtnmhnjjehglcfaaGreat.LinMath
namespace Go.Proofs.YtnmhnjjehglcfaaGreat.Ents
open Go.RowKit Plan HisMath LinMath ModMath Rws Env LayMath
set_option maxRecDepth 20000 in
theorem refPut2_any (F : Nat → Prop) (L : List ByteArray) (v : ByteArray) (a : Option Addr) (n c : Nat) (w : World) (hl : SList w F a n c L) (hm : n ≤ 400000) :
    Calls Tryz.prog 66 #[.slice a n c, .string v] w (SPost w F (putE L v)) := by
  have H := Lib.hid (refPutS_any F L v a n c w hl hm)
  unfold SPost at H ⊢
  clear hl
  go_enter Tryz.func66, Tryz.ntmps66
  go_wp2_with (first
    | (go_at_call 82; ((with_reducible refine (H.out).mono ?_); rintro r9 w2 ⟨oa, on, oc, rfl, lo, hb⟩)))
  go_ret
  exact ⟨_, _, _, rfl, lo, hb⟩
end Go.Proofs.YtnmhnjjehglcfaaGreat.Ents

/- What Block and Values say, in terms of the search. Plain mathematics. -/
namespace Go.Proofs.YtnmhnjjehglcfaaGreat.LinMath
open HisMath ModMath
theorem sizes_parts {B : List ByteArray} {L : List Ev} (h : sizesE B L = 0) : Right L ∧ L.length ≤ 400 ∧ 1 ≤ B.length ∧ B.length ≤ 128 ∧ ∀ s ∈ B, s.size = 16 := by
  unfold sizesE at h
  split at h
  · rename_i h1; exact absurd h h1
  · rename_i h1
    split at h
    · rename_i h2
      have h3 : checkE (B.length : Int) L = 0 := by omega
      unfold checkE at h3
      split at h3
      · omega
      · split at h3
        · omega
        · split at h3
          · rename_i h4 h5 h6
            refine ⟨(rights_iff L).1 h6, by omega, by omega, by omega, fun s hs => ?_⟩
            have := List.all_eq_true.1 h2 s hs
            simpa using this
          · omega
    · omega
/-- what the block can be at the end of a history of one block -/
def endV (v : ByteArray) (L : List Ev) (u : ByteArray) : Prop := singleB v L = true ∧ Ends L (opsE L L.length) 0 v u
theorem lin_parts0 {B : List ByteArray} {L : List Ev} {o : List Int} (h : linE B L o = 0) : sizesE B L = 0 ∧ linOk B L o = true := by
  unfold linE at h
  split at h
  · rename_i h1; exact absurd h h1
  · rename_i h1
    split at h
    · rename_i h2; exact ⟨by omega, h2⟩
    · omega
end Go.Proofs.YtnmhnjjehglcfaaGreat.LinMath
