/- Texts that belong together, part 13. -/
import Derived.Test.YtnmhnjjehglcfaaGreatPack12

/- Lists of events in memory; the walks of the document's invoked and returned. -/
namespace Go.Proofs.YtnmhnjjehglcfaaGreat.Ents
open Go.RowKit Plan HisMath Rws
def VR : Row Ev := ⟨55, 23, 8, 80, .agg #[.bool false, .int .i64 0, .int .i64 0, .int .i64 0, .int .i64 0, .string ⟨#[]⟩, .int .i64 0, .string ⟨#[]⟩], fun x => [.bool x.ret, .int .i64 x.queue, .int .i64 x.serial, .int .i64 x.kind, .int .i64 x.block, .string x.data, .int .i64 x.err, .string x.res]⟩
theorem vrOk : VR.Ok := ⟨fun _ => rfl, fun e u hu => by simp only [VR, List.mem_cons, List.not_mem_nil, or_false] at hu; rcases hu with rfl | rfl | rfl | rfl | rfl | rfl | rfl | rfl <;> rfl, by decide, by kernel_rfl, rfl, Tryz.underlying23, by decide⟩
abbrev VList := TList VR
abbrev evV (x : Ev) : Value := .agg #[.bool x.ret, .int .i64 x.queue, .int .i64 x.serial, .int .i64 x.kind, .int .i64 x.block, .string x.data, .int .i64 x.err, .string x.res]
theorem ev_info : (Tryz.prog.info? 55).map (·.size) = some 8 := by kernel_rfl
abbrev EvAt (w : World) (x : Addr) (i : Nat) (e : Ev) : Prop := w.cell? (x.add (i * 8)) = some (.bool e.ret) ∧ w.cell? ⟨(x.add (i * 8)).block, (x.add (i * 8)).off + 1, none⟩ = some (.int .i64 e.queue) ∧ w.cell? ⟨(x.add (i * 8)).block, (x.add (i * 8)).off + 2, none⟩ = some (.int .i64 e.serial) ∧ w.cell? ⟨(x.add (i * 8)).block, (x.add (i * 8)).off + 3, none⟩ = some (.int .i64 e.kind) ∧ w.cell? ⟨(x.add (i * 8)).block, (x.add (i * 8)).off + 4, none⟩ = some (.int .i64 e.block) ∧ w.cell? ⟨(x.add (i * 8)).block, (x.add (i * 8)).off + 5, none⟩ = some (.string e.data) ∧ w.cell? ⟨(x.add (i * 8)).block, (x.add (i * 8)).off + 6, none⟩ = some (.int .i64 e.err) ∧ w.cell? ⟨(x.add (i * 8)).block, (x.add (i * 8)).off + 7, none⟩ = some (.string e.res)
theorem ev_at {w : World} {F : Nat → Prop} {a : Option Addr} {n c : Nat} {L : List Ev} (h : VList w F a n c L) (i : Nat) (hi : i < n) : ∃ x r, a = some x ∧ L[i]? = some r ∧ EvAt w x i r := by
  obtain ⟨x, r, hx, hr, hc⟩ := h.at' vrOk i hi
  have e := ent_add_off x (i * 8)
  exact ⟨x, r, hx, hr, hc 0 _ rfl, by rw [← e 0]; exact hc 1 _ rfl, by rw [← e 1]; exact hc 2 _ rfl, by rw [← e 2]; exact hc 3 _ rfl, by rw [← e 3]; exact hc 4 _ rfl, by rw [← e 4]; exact hc 5 _ rfl, by rw [← e 5]; exact hc 6 _ rfl, by rw [← e 6]; exact hc 7 _ rfl⟩
theorem r_i {a b : Int} (h : a = b) : Ending.returned (.int .i64 a) = .returned (.int .i64 b) := by rw [h]
set_option maxHeartbeats 8000000 in
set_option maxRecDepth 20000 in
theorem refInvoked_any (F : Nat → Prop) (L : List Ev) (a : Option Addr) (n c : Nat) (s : Int) (w : World) (hl : VList w F a n c L) :
    Calls Tryz.prog 75 #[.slice a n c, .int .i64 s] w fun r w' => r = .returned (.int .i64 (invI L s)) ∧ Below w.heap.size w w' := by
  have hlen := hl.length
  have HAT := Lib.hid (fun W (h : Below w.heap.size w W) i (hi : i < n) => ev_at (hl.same h) i hi)
  have hcp := hl.cap
  unfold maxLen at hcp
  have hb := Below.refl w.heap.size w
  have HYES := Lib.hid (fun (j : Nat) (e : Ev) (h1 : L[j]? = some e) (h2 : invP s e = true) (h3 : ∀ i x, i < j → L[i]? = some x → invP s x = false) => seek_at h1 h2 h3)
  have HNO := Lib.hid (fun (h : ∀ i x, i < n → L[i]? = some x → invP s x = false) => seek_none (l := L) (by rw [hlen]; exact h))
  clear hl hlen
  go_enter Tryz.func75, Tryz.ntmps75
  go_wp2_with fail
  go_loopw [5] (fun x wr => ∃ j : Nat, x = .int .i64 (j : Int) ∧ j ≤ n ∧ RowKit.Hid (∀ i x, i < j → L[i]? = some x → invP s x = false) ∧ Below w.heap.size w wr) (fun x _ => n - (intOf x).toNat)
  case atStart => exact ⟨0, rfl, by omega, Lib.hid (fun i _ hi => absurd hi (Nat.not_lt_zero _)), hb⟩
  case round =>
    clear hb
    obtain ⟨j, rfl, hj, hall, hb⟩ := hrel
    by_cases hlt : j < n
    · obtain ⟨x, e, rfl, he, c0, c1, c2, c3, c4, c5, c6, c7⟩ := HAT.out wr hb j hlt
      have hjI : (j : Int) < (n : Int) := by omega
      have HE := Lib.hid he
      obtain ⟨er, eq, es, ek, eb, ed, ee, ex⟩ := e
      simp only at c0 c2
      clear c1 c3 c4 c5 c6 c7 he
      have HN : (invP s ⟨er, eq, es, ek, eb, ed, ee, ex⟩ = false) → RowKit.Hid (∀ i x, i < j + 1 → L[i]? = some x → invP s x = false) := fun hf => Lib.hid (fun i x hi hx => by
        rcases Nat.lt_or_ge i j with h9 | h9
        · exact hall.out i x h9 hx
        · obtain rfl : i = j := by omega
          rw [HE.out] at hx
          cases hx
          exact hf)
      by_cases hr : er = true
      · subst hr
        replace HN := HN (by simp [invP])
        go_wp2_with fail
        go_roundw
        case rel => exact ⟨j + 1, by go_num, by omega, HN, hb⟩
        case measure => simp [intOf]; omega
      · obtain rfl : er = false := by cases er <;> simp_all
        clear hr
        by_cases hs : es = s
        · have HR := Lib.hid (HYES.out j _ HE.out (by simp [invP, hs]) hall.out)
          clear HN
          subst hs
          go_wp2_with fail
          go_ret
          exact ⟨r_i HR.out.symm, hb⟩
        · replace HN := HN (by simp [invP, hs])
          go_wp2_with fail
          go_roundw
          case rel => exact ⟨j + 1, by go_num, by omega, HN, hb⟩
          case measure => simp [intOf]; omega
    · obtain rfl : j = n := by omega
      have HR := Lib.hid (HNO.out hall.out)
      go_wp2_with fail
      go_ret
      exact ⟨r_i HR.out.symm, hb⟩
set_option maxHeartbeats 8000000 in
set_option maxRecDepth 20000 in
theorem refReturned_any (F : Nat → Prop) (L : List Ev) (a : Option Addr) (n c : Nat) (s : Int) (w : World) (hl : VList w F a n c L) :
    Calls Tryz.prog 76 #[.slice a n c, .int .i64 s] w fun r w' => r = .returned (.int .i64 (retI L s)) ∧ Below w.heap.size w w' := by
  have hlen := hl.length
  have HAT := Lib.hid (fun W (h : Below w.heap.size w W) i (hi : i < n) => ev_at (hl.same h) i hi)
  have hcp := hl.cap
  unfold maxLen at hcp
  have hb := Below.refl w.heap.size w
  have HYES := Lib.hid (fun (j : Nat) (e : Ev) (h1 : L[j]? = some e) (h2 : retP s e = true) (h3 : ∀ i x, i < j → L[i]? = some x → retP s x = false) => seek_at h1 h2 h3)
  have HNO := Lib.hid (fun (h : ∀ i x, i < n → L[i]? = some x → retP s x = false) => seek_none (l := L) (by rw [hlen]; exact h))
  clear hl hlen
  go_enter Tryz.func76, Tryz.ntmps76
  go_wp2_with fail
  go_loopw [5] (fun x wr => ∃ j : Nat, x = .int .i64 (j : Int) ∧ j ≤ n ∧ RowKit.Hid (∀ i x, i < j → L[i]? = some x → retP s x = false) ∧ Below w.heap.size w wr) (fun x _ => n - (intOf x).toNat)
  case atStart => exact ⟨0, rfl, by omega, Lib.hid (fun i _ hi => absurd hi (Nat.not_lt_zero _)), hb⟩
  case round =>
    clear hb
    obtain ⟨j, rfl, hj, hall, hb⟩ := hrel
    by_cases hlt : j < n
    · obtain ⟨x, e, rfl, he, c0, c1, c2, c3, c4, c5, c6, c7⟩ := HAT.out wr hb j hlt
      have hjI : (j : Int) < (n : Int) := by omega
      have HE := Lib.hid he
      obtain ⟨er, eq, es, ek, eb, ed, ee, ex⟩ := e
      simp only at c0 c2
      clear c1 c3 c4 c5 c6 c7 he
      have HN : (retP s ⟨er, eq, es, ek, eb, ed, ee, ex⟩ = false) → RowKit.Hid (∀ i x, i < j + 1 → L[i]? = some x → retP s x = false) := fun hf => Lib.hid (fun i x hi hx => by
        rcases Nat.lt_or_ge i j with h9 | h9
        · exact hall.out i x h9 hx
        · obtain rfl : i = j := by omega
          rw [HE.out] at hx
          cases hx
          exact hf)
      by_cases hr : er = false
      · subst hr
        replace HN := HN (by simp [retP])
        go_wp2_with fail
        go_roundw
        case rel => exact ⟨j + 1, by go_num, by omega, HN, hb⟩
        case measure => simp [intOf]; omega
      · obtain rfl : er = true := by cases er <;> simp_all
        clear hr
        by_cases hs : es = s
        · have HR := Lib.hid (HYES.out j _ HE.out (by simp [retP, hs]) hall.out)
          clear HN
          subst hs
          go_wp2_with fail
          go_ret
          exact ⟨r_i HR.out.symm, hb⟩
        · replace HN := HN (by simp [retP, hs])
          go_wp2_with fail
          go_roundw
          case rel => exact ⟨j + 1, by go_num, by omega, HN, hb⟩
          case measure => simp [intOf]; omega
    · obtain rfl : j = n := by omega
      have HR := Lib.hid (HNO.out hall.out)
      go_wp2_with fail
      go_ret
      exact ⟨r_i HR.out.symm, hb⟩
end Go.Proofs.YtnmhnjjehglcfaaGreat.Ents

/- Lists of numbers as rows of numbers: their fronts and backs, and the append of a list to one that the call owns. -/
namespace Go.Proofs.YtnmhnjjehglcfaaGreat.Ents
open Go.RowKit Plan EntMath Rws
def IR : Row Int := ⟨3, 24, 1, 8, .int .i64 0, fun z => [.int .i64 z]⟩
theorem irOk : IR.Ok := ⟨fun _ => rfl, fun e u hu => by simp only [IR, List.mem_cons, List.not_mem_nil, or_false] at hu; subst hu; rfl, by decide, by kernel_rfl, rfl, Tryz.underlying24, by decide⟩
theorem ir_all (L : List Int) : IR.all L = intC L := by
  induction L with
  | nil => rfl
  | cons x r ih =>
    rw [show IR.all (x :: r) = IR.c x ++ IR.all r from rfl, ih]
    rfl
section
variable {w : World} {F : Nat → Prop} {a : Option Addr} {n c : Nat} {L : List Int}
theorem IList.rows (h : IList w F a n c L) : TList IR w F a n c L := by
  rcases h with h | ⟨x, h1, h2, h3, h4, h5, h6, h7⟩
  · exact .inl h
  · exact .inr ⟨x, h1, h2, h3, h4, h5, h6, by rw [ir_all]; exact intC_cell h7⟩
theorem ilist_of (h : TList IR w F a n c L) : IList w F a n c L := by
  rcases h with h | ⟨x, h1, h2, h3, h4, h5, h6, h7⟩
  · exact .inl h
  · exact .inr ⟨x, h1, h2, h3, h4, h5, h6, fun j z hz => h7 j _ (by rw [ir_all]; exact intC_at hz)⟩
theorem IList.front (h : IList w F a n c L) (k : Nat) (hk : k ≤ n) : IList w F a k c (L.take k) := ilist_of (h.rows.front irOk k hk)
theorem IList.back {x : Addr} (h : IList w F (some x) n c L) (k : Nat) (hk : k ≤ n) (hn : 0 < n) : IList w F (some (x.add k)) (n - k) (c - k) (L.drop k) := by
  have h1 := h.rows.back irOk k hk hn
  rw [show k * IR.sz = k from Nat.mul_one k] at h1
  exact ilist_of h1
end
end Go.Proofs.YtnmhnjjehglcfaaGreat.Ents

/- A struct by value stored into the middle of a box of the walk's own. -/
namespace Go.Proofs.YtnmhnjjehglcfaaGreat.Env
open Go.RowKit Plan Ents Rws
section
variable {w W : World} {T : List Thing}
theorem Env.storeMid {o : Oper} {a : Act} {K' : Act → World → Prop} {Q : Exit → Act → World → Prop} (K : Env w W T) (i : Nat) {g : Nat} {cs : Array Value} {t : TypeId} (hi : T[i]? = some (.box g (.cells cs t (0, 0)))) (ty : TypeId) (x y : Operand) (hop : o.op = .store ty x y)
    (q : Nat) (cells cs' : Array Value) (hx : a.eval x = .pointer (some ⟨g, q, none⟩)) (hy : a.eval y = .agg cells) (hn : q + cells.size ≤ cs.size) (hinf : (Tryz.prog.info? ty).map (·.size) = some cells.size) (h1 : cells.all (·.oneCell') = true) (hcs : spl cs q cells.toList = cs')
    (h : ∀ W', Env w W' (T.set i (.box g (.cells cs' t (0, 0)))) → (∀ F, Keep w F W T W' (T.set i (.box g (.cells cs' t (0, 0))))) → K' (a.put o.dst undef) W') : o.wp Tryz.prog a W K' Q := by
  have hg := K.get i hi
  refine wp_store_mid ty x y hop g q cells hx hy (mid_there hg hn) hinf h1 ?_
  rw [mid_cells _ _ _ _ hg, hcs]
  exact h _ (K.put i hi rfl) (fun _ => K.keep_put i hi rfl)
end
end Go.Proofs.YtnmhnjjehglcfaaGreat.Env

/- An element of a list of numbers. -/
namespace Go.Proofs.YtnmhnjjehglcfaaGreat.Ents
open Go.RowKit Plan Rws
theorem ir_at {w : World} {F : Nat → Prop} {a : Option Addr} {n c : Nat} {L : List Int} (h : TList IR w F a n c L) (i : Nat) (hi : i < n) : ∃ x y, a = some x ∧ L[i]? = some y ∧ w.cell? (x.add i) = some (.int .i64 y) := by
  obtain ⟨x, y, hx, hy, hc⟩ := h.at' irOk i hi
  have := hc 0 _ rfl
  rw [show IR.sz = 1 from rfl, Nat.mul_one, Nat.add_zero] at this
  exact ⟨x, y, hx, hy, this⟩
theorem ret_b {a b : Bool} (h : a = b) : Ending.returned (.bool a) = .returned (.bool b) := by rw [h]
end Go.Proofs.YtnmhnjjehglcfaaGreat.Ents
