/- Texts that belong together, part 9. -/
import Derived.Test.YtnmhnjjehglcfaaGreatPack8

/- Lists of events in memory; the walks of the document's invoked and returned. -/
namespace Go.Proofs.YtnmhnjjehglcfaaGreat.Ents
open Go.RowKit Plan HisMath Rws
def VR : Row Ev := ⟨55, 23, 8, 80, .agg #[.bool false, .int .i64 0, .int .i64 0, .int .i64 0, .int .i64 0, .string ⟨#[]⟩, .int .i64 0, .string ⟨#[]⟩], fun x => [.bool x.ret, .int .i64 x.queue, .int .i64 x.serial, .int .i64 x.kind, .int .i64 x.block, .string x.data, .int .i64 x.err, .string x.res]⟩
theorem vrOk : VR.Ok := ⟨fun _ => rfl, fun e u hu => by simp only [VR, List.mem_cons, List.not_mem_nil, or_false] at hu; rcases hu with rfl | rfl | rfl | rfl | rfl | rfl | rfl | rfl <;> rfl, by decide, by kernel_rfl, rfl, Tryz.underlying23, by decide⟩
abbrev VList := TList VR
abbrev evV (x : Ev) : Value := .agg #[.bool x.ret, .int .i64 x.queue, .int .i64 x.serial, .int .i64 x.kind, .int .i64 x.block, .string x.data, .int .i64 x.err, .string x.res]
theorem ev_info : (Tryz.prog.info? 55).map (·.size) = some 8 := by kernel_rfl
abbrev EvAt (w : World) (x : Addr) (i : Nat) (e : Ev) : Prop := w.cell? (x.add (i * 8)) = some (.bool e.ret) ∧ w.cell? ⟨(x.add (i * 8)).block, (x.add (i * 8)).off + 1, none⟩ = some (.int .i64 e.queue) ∧ w.cell? ⟨(x.add (i * 8)).block, (x.add (i * 8)).off + 2, none⟩ = some (.int .i64 e.serial) ∧ w.cell? ⟨(x.add (i * 8)).block, (x.add (i * 8)).off + 3, none⟩ = some (.int .i64 e.kind) ∧ w.cell? ⟨(x.add (i * 8)).block, (x.add (i * 8)).off + 4, none⟩ = some (.int .i64 e.block) ∧ w.cell? ⟨(x.add (i * 8)).block, (x.add (i * 8)).off + 5, none⟩ = some (.string e.data) ∧ w.cell? ⟨(x.add (i * 8)).block, (x.add (i * 8)).off + 6, none⟩ = some (.int .i64 e.err) ∧ w.cell? ⟨(x.add (i * 8)).block, (x.add (i * 8)).off + 7, none⟩ = some (.string e.res)
theorem ev_at {w : World} {F : Nat → Prop} {a : Option Addr} {n c : Nat} {L : List Ev} (h : VList w F a n c L) (i : Nat) (hi : i < n) : ∃ x r, a = some x ∧ L[i]? = some r ∧ EvAt w x i r := by
  obtain ⟨x, r, hx, hr, hc⟩ := h.at' vrOk i hi
  have e := ent_add_off x (i * 8)
  exact ⟨x, r, hx, hr, hc 0 _ rfl, by rw [← e 0]; exact hc 1 _ rfl, by rw [← e 1]; exact hc 2 _ rfl, by rw [← e 2]; exact hc 3 _ rfl, by rw [← e 3]; exact hc 4 _ rfl, by rw [← e 4]; exact hc 5 _ rfl, by rw [← e 5]; exact hc 6 _ rfl, by rw [← e 6]; exact hc 7 _ rfl⟩
theorem r_i {a b : Int} (h : a = b) : Ending.returned (.int .i64 a) = .returned (.int .i64 b) := by rw [h]
set_option maxHeartbeats 8000000 in
set_option maxRecDepth 20000 in
theorem refInvoked_any (F : Nat → Prop) (L : List Ev) (a : Option Addr) (n c : Nat) (s : Int) (w : World) (hl : VList w F a n c L) :
    Calls Tryz.prog 75 #[.slice a n c, .int .i64 s] w fun r w' => r = .returned (.int .i64 (invI L s)) ∧ Below w.heap.size w w' := by
  have hlen := hl.length
  have HAT := Lib.hid (fun W (h : Below w.heap.size w W) i (hi : i < n) => ev_at (hl.same h) i hi)
  have hcp := hl.cap
  unfold maxLen at hcp
  have hb := Below.refl w.heap.size w
  have HYES := Lib.hid (fun (j : Nat) (e : Ev) (h1 : L[j]? = some e) (h2 : invP s e = true) (h3 : ∀ i x, i < j → L[i]? = some x → invP s x = false) => seek_at h1 h2 h3)
  have HNO := Lib.hid (fun (h : ∀ i x, i < n → L[i]? = some x → invP s x = false) => seek_none (l := L) (by rw [hlen]; exact h))
  clear hl hlen
  go_enter Tryz.func75, Tryz.ntmps75
  go_wp2_with fail
  go_loopw [5] (fun x wr => ∃ j : Nat, x = .int .i64 (j : Int) ∧ j ≤ n ∧ RowKit.Hid (∀ i x, i < j → L[i]? = some x → invP s x = false) ∧ Below w.heap.size w wr) (fun x _ => n - (intOf x).toNat)
  case atStart => exact ⟨0, rfl, by omega, Lib.hid (fun i _ hi => absurd hi (Nat.not_lt_zero _)), hb⟩
  case round =>
    clear hb
    obtain ⟨j, rfl, hj, hall, hb⟩ := hrel
    by_cases hlt : j < n
    · obtain ⟨x, e, rfl, he, c0, c1, c2, c3, c4, c5, c6, c7⟩ := HAT.out wr hb j hlt
      have hjI : (j : Int) < (n : Int) := by omega
      have HE := Lib.hid he
      obtain ⟨er, eq, es, ek, eb, ed, ee, ex⟩ := e
      simp only at c0 c2
      clear c1 c3 c4 c5 c6 c7 he
      have HN : (invP s ⟨er, eq, es, ek, eb, ed, ee, ex⟩ = false) → RowKit.Hid (∀ i x, i < j + 1 → L[i]? = some x → invP s x = false) := fun hf => Lib.hid (fun i x hi hx => by
        rcases Nat.lt_or_ge i j with h9 | h9
        · exact hall.out i x h9 hx
        · obtain rfl : i = j := by omega
          rw [HE.out] at hx
          cases hx
          exact hf)
      by_cases hr : er = true
      · subst hr
        replace HN := HN (by simp [invP])
        go_wp2_with fail
        go_roundw
        case rel => exact ⟨j + 1, by go_num, by omega, HN, hb⟩
        case measure => simp [intOf]; omega
      · obtain rfl : er = false := by cases er <;> simp_all
        clear hr
        by_cases hs : es = s
        · have HR := Lib.hid (HYES.out j _ HE.out (by simp [invP, hs]) hall.out)
          clear HN
          subst hs
          go_wp2_with fail
          go_ret
          exact ⟨r_i HR.out.symm, hb⟩
        · replace HN := HN (by simp [invP, hs])
          go_wp2_with fail
          go_roundw
          case rel => exact ⟨j + 1, by go_num, by omega, HN, hb⟩
          case measure => simp [intOf]; omega
    · obtain rfl : j = n := by omega
      have HR := Lib.hid (HNO.out hall.out)
      go_wp2_with fail
      go_ret
      exact ⟨r_i HR.out.symm, hb⟩
set_option maxHeartbeats 8000000 in
set_option maxRecDepth 20000 in
theorem refReturned_any (F : Nat → Prop) (L : List Ev) (a : Option Addr) (n c : Nat) (s : Int) (w : World) (hl : VList w F a n c L) :
    Calls Tryz.prog 76 #[.slice a n c, .int .i64 s] w fun r w' => r = .returned (.int .i64 (retI L s)) ∧ Below w.heap.size w w' := by
  have hlen := hl.length
  have HAT := Lib.hid (fun W (h : Below w.heap.size w W) i (hi : i < n) => ev_at (hl.same h) i hi)
  have hcp := hl.cap
  unfold maxLen at hcp
  have hb := Below.refl w.heap.size w
  have HYES := Lib.hid (fun (j : Nat) (e : Ev) (h1 : L[j]? = some e) (h2 : retP s e = true) (h3 : ∀ i x, i < j → L[i]? = some x → retP s x = false) => seek_at h1 h2 h3)
  have HNO := Lib.hid (fun (h : ∀ i x, i < n → L[i]? = some x → retP s x = false) => seek_none (l := L) (by rw [hlen]; exact h))
  clear hl hlen
  go_enter Tryz.func76, Tryz.ntmps76
  go_wp2_with fail
  go_loopw [5] (fun x wr => ∃ j : Nat, x = .int .i64 (j : Int) ∧ j ≤ n ∧ RowKit.Hid (∀ i x, i < j → L[i]? = some x → retP s x = false) ∧ Below w.heap.size w wr) (fun x _ => n - (intOf x).toNat)
  case atStart => exact ⟨0, rfl, by omega, Lib.hid (fun i _ hi => absurd hi (Nat.not_lt_zero _)), hb⟩
  case round =>
    clear hb
    obtain ⟨j, rfl, hj, hall, hb⟩ := hrel
    by_cases hlt : j < n
    · obtain ⟨x, e, rfl, he, c0, c1, c2, c3, c4, c5, c6, c7⟩ := HAT.out wr hb j hlt
      have hjI : (j : Int) < (n : Int) := by omega
      have HE := Lib.hid he
      obtain ⟨er, eq, es, ek, eb, ed, ee, ex⟩ := e
      simp only at c0 c2
      clear c1 c3 c4 c5 c6 c7 he
      have HN : (retP s ⟨er, eq, es, ek, eb, ed, ee, ex⟩ = false) → RowKit.Hid (∀ i x, i < j + 1 → L[i]? = some x → retP s x = false) := fun hf => Lib.hid (fun i x hi hx => by
        rcases Nat.lt_or_ge i j with h9 | h9
        · exact hall.out i x h9 hx
        · obtain rfl : i = j := by omega
          rw [HE.out] at hx
          cases hx
          exact hf)
      by_cases hr : er = false
      · subst hr
        replace HN := HN (by simp [retP])
        go_wp2_with fail
        go_roundw
        case rel => exact ⟨j + 1, by go_num, by omega, HN, hb⟩
        case measure => simp [intOf]; omega
      · obtain rfl : er = true := by cases er <;> simp_all
        clear hr
        by_cases hs : es = s
        · have HR := Lib.hid (HYES.out j _ HE.out (by simp [retP, hs]) hall.out)
          clear HN
          subst hs
          go_wp2_with fail
          go_ret
          exact ⟨r_i HR.out.symm, hb⟩
        · replace HN := HN (by simp [retP, hs])
          go_wp2_with fail
          go_roundw
          case rel => exact ⟨j + 1, by go_num, by omega, HN, hb⟩
          case measure => simp [intOf]; omega
    · obtain rfl : j = n := by omega
      have HR := Lib.hid (HNO.out hall.out)
      go_wp2_with fail
      go_ret
      exact ⟨r_i HR.out.symm, hb⟩
end Go.Proofs.YtnmhnjjehglcfaaGreat.Ents

/- Lists of numbers as rows of numbers: their fronts and backs, and the append of a list to one that the call owns. -/
namespace Go.Proofs.YtnmhnjjehglcfaaGreat.Ents
open Go.RowKit Plan EntMath Rws
def IR : Row Int := ⟨3, 24, 1, 8, .int .i64 0, fun z => [.int .i64 z]⟩
theorem irOk : IR.Ok := ⟨fun _ => rfl, fun e u hu => by simp only [IR, List.mem_cons, List.not_mem_nil, or_false] at hu; subst hu; rfl, by decide, by kernel_rfl, rfl, Tryz.underlying24, by decide⟩
theorem ir_all (L : List Int) : IR.all L = intC L := by
  induction L with
  | nil => rfl
  | cons x r ih =>
    rw [show IR.all (x :: r) = IR.c x ++ IR.all r from rfl, ih]
    rfl
section
variable {w : World} {F : Nat → Prop} {a : Option Addr} {n c : Nat} {L : List Int}
theorem IList.rows (h : IList w F a n c L) : TList IR w F a n c L := by
  rcases h with h | ⟨x, h1, h2, h3, h4, h5, h6, h7⟩
  · exact .inl h
  · exact .inr ⟨x, h1, h2, h3, h4, h5, h6, by rw [ir_all]; exact intC_cell h7⟩
theorem ilist_of (h : TList IR w F a n c L) : IList w F a n c L := by
  rcases h with h | ⟨x, h1, h2, h3, h4, h5, h6, h7⟩
  · exact .inl h
  · exact .inr ⟨x, h1, h2, h3, h4, h5, h6, fun j z hz => h7 j _ (by rw [ir_all]; exact intC_at hz)⟩
theorem IList.front (h : IList w F a n c L) (k : Nat) (hk : k ≤ n) : IList w F a k c (L.take k) := ilist_of (h.rows.front irOk k hk)
theorem IList.back {x : Addr} (h : IList w F (some x) n c L) (k : Nat) (hk : k ≤ n) (hn : 0 < n) : IList w F (some (x.add k)) (n - k) (c - k) (L.drop k) := by
  have h1 := h.rows.back irOk k hk hn
  rw [show k * IR.sz = k from Nat.mul_one k] at h1
  exact ilist_of h1
end
end Go.Proofs.YtnmhnjjehglcfaaGreat.Ents

/- A struct by value stored into the middle of a box of the walk's own. -/
namespace Go.Proofs.YtnmhnjjehglcfaaGreat.Env
open Go.RowKit Plan Ents Rws
section
variable {w W : World} {T : List Thing}
theorem Env.storeMid {o : Oper} {a : Act} {K' : Act → World → Prop} {Q : Exit → Act → World → Prop} (K : Env w W T) (i : Nat) {g : Nat} {cs : Array Value} {t : TypeId} (hi : T[i]? = some (.box g (.cells cs t (0, 0)))) (ty : TypeId) (x y : Operand) (hop : o.op = .store ty x y)
    (q : Nat) (cells cs' : Array Value) (hx : a.eval x = .pointer (some ⟨g, q, none⟩)) (hy : a.eval y = .agg cells) (hn : q + cells.size ≤ cs.size) (hinf : (Tryz.prog.info? ty).map (·.size) = some cells.size) (h1 : cells.all (·.oneCell') = true) (hcs : spl cs q cells.toList = cs')
    (h : ∀ W', Env w W' (T.set i (.box g (.cells cs' t (0, 0)))) → (∀ F, Keep w F W T W' (T.set i (.box g (.cells cs' t (0, 0))))) → K' (a.put o.dst undef) W') : o.wp Tryz.prog a W K' Q := by
  have hg := K.get i hi
  refine wp_store_mid ty x y hop g q cells hx hy (mid_there hg hn) hinf h1 ?_
  rw [mid_cells _ _ _ _ hg, hcs]
  exact h _ (K.put i hi rfl) (fun _ => K.keep_put i hi rfl)
end
end Go.Proofs.YtnmhnjjehglcfaaGreat.Env

/- An element of a list of numbers. -/
namespace Go.Proofs.YtnmhnjjehglcfaaGreat.Ents
open Go.RowKit Plan Rws
theorem ret_b {a b : Bool} (h : a = b) : Ending.returned (.bool a) = .returned (.bool b) := by rw [h]
end Go.Proofs.YtnmhnjjehglcfaaGreat.Ents

/- Dice as a thing of a walk; functions that roll dice that they were given. -/
namespace Go.Proofs.YtnmhnjjehglcfaaGreat.Env
open Go.RowKit Plan Ents Rws
/-- all but the blocks of P is as it was -/
structure Chg (P : Nat → Prop) (W W' : World) : Prop where
  os : W'.os = W.os
  tape : W'.tape = W.tape
  output : W'.output = W.output
  size : W.heap.size ≤ W'.heap.size
  same : ∀ b, b < W.heap.size → ¬ P b → W'.heap[b]? = W.heap[b]?
abbrev btw (B g : Nat) : Nat → Prop := fun b => B ≤ b ∧ b ≤ g
section
variable {w W W' W2 : World} {F P : Nat → Prop} {T T' : List Thing}
theorem Chg.refl (W : World) : Chg P W W := ⟨rfl, rfl, rfl, Nat.le_refl _, fun _ _ _ => rfl⟩
theorem Chg.trans (h : Chg P W W') (k : Chg P W' W2) : Chg P W W2 :=
  ⟨k.os.trans h.os, k.tape.trans h.tape, k.output.trans h.output, Nat.le_trans h.size k.size, fun b hb hp => (k.same b (Nat.lt_of_lt_of_le hb h.size) hp).trans (h.same b hb hp)⟩
theorem Chg.grown {g : Nat} (h : W.grownBy W' (some g)) (hg : P g) : Chg P W W' := ⟨h.os, h.tape, h.output, h.size, fun b hb hp => h.block b hb (fun e => hp (by rw [Option.some.inj e]; exact hg))⟩
/-- the blocks of one thing change -/
theorem Env.change (K : Env w W T) (i : Nat) {x y : Thing} (hx : T[i]? = some x) (h : Chg x.has W W') (hy : y.holds w.heap.size W') (hn : ∀ g, y.has g → x.has g ∨ W.heap.size ≤ g) :
    Env w W' (T.set i y) ∧ ∀ F, Keep w F W T W' (T.set i y) := by
  have hkeep : ∀ (j : Nat) (z : Thing), j ≠ i → T[j]? = some z → z.holds w.heap.size W' := fun j z hji hz => by
    refine (K.at' j hz).same h.size fun b hb => h.same b ((K.at' j hz).lt hb).2 fun e => hji ?_
    exact K.nd j i z x b hz hx hb e
  have hap : ∀ (j : Nat) (z : Thing) (g : Nat), j ≠ i → T[j]? = some z → z.has g → y.has g → False := fun j z g hji hz h1 h2 => by
    rcases hn g h2 with h3 | h3
    · exact hji (K.nd j i z x g hz hx h1 h3)
    · have := ((K.at' j hz).lt h1).2
      omega
  have hlt : i < T.length := (List.getElem?_eq_some_iff.1 hx).1
  have hxm := List.mem_of_getElem? hx
  refine ⟨⟨fun z hz => ?_, fun a b p q g ha hb hp hq => ?_, ?_⟩, fun F => ⟨h.size, fun b hb => ⟨hb.1, Nat.lt_of_lt_of_le hb.2.1 h.size, fun z hz e => ?_⟩, fun b hb => h.same b hb.2.1 (hb.2.2 x hxm)⟩⟩
  · obtain ⟨j, hj⟩ := List.mem_iff_getElem?.1 hz
    by_cases hji : j = i
    · subst hji
      rw [List.getElem?_set_self hlt] at hj
      obtain rfl := Option.some.inj hj
      exact hy
    · rw [List.getElem?_set_ne (fun e => hji e.symm)] at hj
      exact hkeep j z hji hj
  · by_cases hai : a = i
    · by_cases hbi : b = i
      · rw [hai, hbi]
      · subst hai
        rw [List.getElem?_set_self hlt] at ha
        obtain rfl := Option.some.inj ha
        rw [List.getElem?_set_ne (fun e => hbi e.symm)] at hb
        exact (hap b q g hbi hb hq hp).elim
    · rw [List.getElem?_set_ne (fun e => hai e.symm)] at ha
      by_cases hbi : b = i
      · subst hbi
        rw [List.getElem?_set_self hlt] at hb
        obtain rfl := Option.some.inj hb
        exact (hap a p g hai ha hp hq).elim
      · rw [List.getElem?_set_ne (fun e => hbi e.symm)] at hb
        exact K.nd a b p q g ha hb hp hq
  · refine K.hb.trans ⟨h.os, h.tape, h.output, Nat.le_trans (Nat.le_of_eq rfl) h.size, fun b hb => h.same b (Nat.lt_of_lt_of_le hb K.hb.size) fun e => ?_⟩
    have := ((K.at' i hx).lt e).1
    omega
  · rcases List.mem_or_eq_of_mem_set hz with hz | rfl
    · exact hb.2.2 z hz e
    · rcases hn b e with h1 | h1
      · exact hb.2.2 x hxm h1
      · have := hb.2.1
        omega
/-- dice whose blocks lie from B to g -/
def dieT (B g : Nat) (zs : List Int) (k : Nat) : Thing := .any (btw B g) (fun W => Dice W B g zs k)
theorem die_same {B g : Nat} {zs : List Int} {k : Nat} {W1 W2 : World} (h : Dice W1 B g zs k) (hs : ∀ b, btw B g b → W2.heap[b]? = W1.heap[b]?) : Dice W2 B g zs k := by
  obtain ⟨v, hg, hown, hne, hB⟩ := h
  refine ⟨v, (hs g ⟨hB, Nat.le_refl _⟩).trans hg, ⟨hown.1, hown.2.imp id ?_⟩, hne, hB⟩
  rintro ⟨b, cap, cur, rfl, hb, hgg, rest⟩
  exact ⟨b, cap, cur, rfl, hb, (hs b ⟨hb, Nat.le_of_lt (hne b rfl)⟩).trans hgg, rest⟩
theorem die_holds {B0 B g : Nat} {zs : List Int} {k : Nat} (h : Dice W B g zs k) (hB : B0 ≤ B) : (dieT B g zs k).holds B0 W := by
  have hlt := dice_lt h
  exact ⟨h, fun b hb => ⟨Nat.le_trans hB hb.1, Nat.lt_of_le_of_lt hb.2 hlt⟩, fun _ _ h1 _ h3 => die_same h1 h3⟩
theorem Env.die (K : Env w W T) (i : Nat) {B g : Nat} {zs : List Int} {k : Nat} (h : T[i]? = some (dieT B g zs k)) : Dice W B g zs k := (K.at' i h).1
theorem Env.roll (K : Env w W T) {g : Nat} {zs : List Int} {k : Nat} (h : Dice W' W.heap.size g zs k) (hb : Below W.heap.size W W') : Env w W' (dieT W.heap.size g zs k :: T) ∧ ∀ F, Keep w F W T W' (dieT W.heap.size g zs k :: T) := by
  refine ⟨K.cons hb (die_holds h K.hb.size) (fun b hb => hb.1), fun F => ⟨hb.size, fun b hq => ⟨hq.1, Nat.lt_of_lt_of_le hq.2.1 hb.size, fun x hx e => ?_⟩, fun b hq => hb.block b hq.2.1⟩⟩
  rcases List.mem_cons.1 hx with rfl | hx
  · have h1 : W.heap.size ≤ b ∧ b ≤ g := e
    have := hq.2.1
    omega
  · exact hq.2.2 x hx e
/-- the dice are rolled -/
theorem Env.dice (K : Env w W T) (i : Nat) {B g : Nat} {zs : List Int} {k k' : Nat} (h : T[i]? = some (dieT B g zs k)) (hd : Dice W' B g zs k') (hc : Chg (btw B g) W W') :
    Env w W' (T.set i (dieT B g zs k')) ∧ ∀ F, Keep w F W T W' (T.set i (dieT B g zs k')) :=
  K.change i h hc (die_holds hd (by
    have hB : B ≤ g := hd.choose_spec.2.2.2
    exact ((K.at' i h).lt (show btw B g B from ⟨Nat.le_refl _, hB⟩)).1)) (fun b hb => .inl hb)
/-- a function that rolls dice that it was given: the world below the dice -/
def low (w : World) (B : Nat) : World := { w with heap := w.heap.extract 0 B }
theorem low_size {B : Nat} (h : B ≤ w.heap.size) : (low w B).heap.size = B := by simp [low]; omega
theorem low_below {B : Nat} (h : B ≤ w.heap.size) : Below (low w B).heap.size (low w B) w := by
  refine ⟨rfl, rfl, rfl, by rw [low_size h]; exact h, fun b hb => ?_⟩
  rw [low_size h] at hb
  simp only [low, Array.getElem?_extract, Nat.sub_zero, Nat.zero_add]
  rw [if_pos (by omega)]
theorem Env.given {B g : Nat} {zs : List Int} {k : Nat} (h : Dice w B g zs k) : Env (low w B) w [dieT B g zs k] := by
  have hlt := dice_lt h
  have hB : B ≤ g := h.choose_spec.2.2.2
  have hBw : B ≤ w.heap.size := by omega
  refine ⟨fun x hx => ?_, fun i j x y b hi hj _ _ => ?_, low_below hBw⟩
  · rw [List.mem_singleton.1 hx, low_size hBw]
    exact die_holds h (Nat.le_refl _)
  · have := (List.getElem?_eq_some_iff.1 hi).1
    have := (List.getElem?_eq_some_iff.1 hj).1
    simp at *
    omega
theorem next_chg (W : World) (B g : Nat) (zs : List Int) (k : Nat) (n : Int) (hd : Dice W B g zs k) (hl : zs.length ≤ 100000) (h1 : 1 ≤ n) (h2 : n ≤ 4611686018427387904) :
    Calls Tryz.prog 28 #[.pointer (some ⟨g, 0, none⟩), .int .i64 n] W fun r W' => r = .returned (.int .i64 (nxt zs k n)) ∧ Dice W' B g zs (stp zs k) ∧ Chg (btw B g) W W' := by
  have hB : B ≤ g := hd.choose_spec.2.2.2
  exact (next_any W B g zs k n hd hl h1 h2).mono fun r W' ⟨e, h3, h4, _⟩ => ⟨e, h3, Chg.grown h4 ⟨hB, Nat.le_refl _⟩⟩
end
end Go.Proofs.YtnmhnjjehglcfaaGreat.Env
