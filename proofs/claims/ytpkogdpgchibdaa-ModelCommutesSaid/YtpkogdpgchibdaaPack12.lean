/- Texts that belong together, part 12. -/
import Derived.Test.YtpkogdpgchibdaaPack11
import Derived.Deep.Cut

/- What the program promises of commands (its Check and Zero). -/
namespace Go.Proofs.Ytpkogdpgchibdaa.Ents
open Go.RowKit Plan LayMath CmdMath
theorem Cm.store_int {ops : Array Oper} {rest : List Oper} {a : Act} {w : World} {Q : Exit → Act → World → Prop} (ty : TypeId) (x y : Operand) {t' : TypeId} {pos : String} {after : Array Edge}
    (b o : Nat) (k : IntKind) (n : Int) (hx : a.eval x = .pointer (some ⟨b, o, none⟩)) (hy : a.eval y = .int k n) (hc : ∃ u, w.cell? ⟨b, o, none⟩ = some u) (hf : w.frozen? ⟨b, o, none⟩ = false) (hi : (Try.prog.info? ty).map (·.size) = some 1)
    (h : wpList Try.prog ops Q rest (a.put none undef) (w.setCell ⟨b, o, none⟩ (.int k n))) : wpList Try.prog ops Q (⟨none, .store ty x y, t', pos, after, none⟩ :: rest) a w :=
  wpList_plain rfl fun _ hK => Put.wp_store_int ty x y rfl b o k n hx hy hc hf hi (hK _ _ h)
theorem cm_free {w : World} {g o : Nat} {cs : Array Value} {t : TypeId} (h : w.heap[g]? = some (.cells cs t (0, 0))) : w.frozen? ⟨g, o, none⟩ = false := by simp [World.frozen?, h]
structure CommandOk : Prop where
  check : ∀ (cz cs cb cq cd ch k b : Int) (s : ByteArray) (w : World),
    Calls Try.prog 29 #[confV cz cs cb cq cd ch, cmdV k b s] w fun r w' => r = .returned (.int .i64 (checkC cb k b s.size)) ∧ Below w.heap.size w w'
  zero : ∀ (w : World), Calls Try.prog 27 #[] w fun r w' => r = .returned (.string zeroC) ∧ Below w.heap.size w w'
end Go.Proofs.Ytpkogdpgchibdaa.Ents

/- Lists of strings, of commands and of results in memory. -/
namespace Go.Proofs.Ytpkogdpgchibdaa.Ents
open Go.RowKit Plan ModMath CmdMath Rws
def SR : Row ByteArray := ⟨9, 22, 1, 16, .string ⟨#[]⟩, fun s => [.string s]⟩
theorem srOk : SR.Ok := ⟨fun _ => rfl, fun e u hu => by simp only [SR, List.mem_cons, List.not_mem_nil, or_false] at hu; subst hu; rfl, by decide, by kernel_rfl, rfl, Try.underlying22, by decide⟩
def CR : Row Cmd := ⟨24, 25, 3, 32, .agg #[.int .i64 0, .int .i64 0, .string ⟨#[]⟩], fun x => [.int .i64 x.kind, .int .i64 x.block, .string x.data]⟩
theorem crOk : CR.Ok := ⟨fun _ => rfl, fun e u hu => by simp only [CR, List.mem_cons, List.not_mem_nil, or_false] at hu; rcases hu with rfl | rfl | rfl <;> rfl, by decide, by kernel_rfl, rfl, Try.underlying25, by decide⟩
def OR : Row Res := ⟨30, 33, 2, 24, .agg #[.int .i64 0, .string ⟨#[]⟩], fun x => [.int .i64 x.err, .string x.data]⟩
theorem orOk : OR.Ok := ⟨fun _ => rfl, fun e u hu => by simp only [OR, List.mem_cons, List.not_mem_nil, or_false] at hu; rcases hu with rfl | rfl <;> rfl, by decide, by kernel_rfl, rfl, Try.underlying33, by decide⟩
abbrev SList := TList SR
abbrev CList' := TList CR
abbrev OList := TList OR
abbrev resV (x : Res) : Value := .agg #[.int .i64 x.err, .string x.data]
theorem res_info : (Try.prog.info? 30).map (·.size) = some 2 := by kernel_rfl
theorem strs_info1 : (Try.prog.info? 22).map (·.size) = some 1 := by kernel_rfl
section
variable {w : World} {F : Nat → Prop} {a : Option Addr} {n c : Nat}
theorem str_at {L : List ByteArray} (h : SList w F a n c L) (i : Nat) (hi : i < n) : ∃ x s, a = some x ∧ L[i]? = some s ∧ w.cell? (x.add i) = some (.string s) := by
  obtain ⟨x, s, hx, hs, hc⟩ := h.at' srOk i hi
  have := hc 0 _ rfl
  rw [show i * SR.sz + 0 = i from Nat.mul_one i] at this
  exact ⟨x, s, hx, hs, this⟩
abbrev CmdAt (w : World) (x : Addr) (i : Nat) (r : Cmd) : Prop := w.cell? (x.add (i * 3)) = some (.int .i64 r.kind) ∧ w.cell? ⟨(x.add (i * 3)).block, (x.add (i * 3)).off + 1, none⟩ = some (.int .i64 r.block) ∧ w.cell? ⟨(x.add (i * 3)).block, (x.add (i * 3)).off + 2, none⟩ = some (.string r.data)
theorem cmd_at {L : List Cmd} (h : CList' w F a n c L) (i : Nat) (hi : i < n) : ∃ x r, a = some x ∧ L[i]? = some r ∧ CmdAt w x i r := by
  obtain ⟨x, r, hx, hr, hc⟩ := h.at' crOk i hi
  exact ⟨x, r, hx, hr, hc 0 _ rfl, by rw [← ent_add_off x (i * 3) 0]; exact hc 1 _ rfl, by rw [← ent_add_off x (i * 3) 1]; exact hc 2 _ rfl⟩
abbrev ResAt (w : World) (x : Addr) (i : Nat) (r : Res) : Prop := w.cell? (x.add (i * 2)) = some (.int .i64 r.err) ∧ w.cell? ⟨(x.add (i * 2)).block, (x.add (i * 2)).off + 1, none⟩ = some (.string r.data)
theorem res_at {L : List Res} (h : OList w F a n c L) (i : Nat) (hi : i < n) : ∃ x r, a = some x ∧ L[i]? = some r ∧ ResAt w x i r := by
  obtain ⟨x, r, hx, hr, hc⟩ := h.at' orOk i hi
  exact ⟨x, r, hx, hr, hc 0 _ rfl, by rw [← ent_add_off x (i * 2) 0]; exact hc 1 _ rfl⟩
end
end Go.Proofs.Ytpkogdpgchibdaa.Ents

/- The walks of the document's with, New and Apply of blocks. -/
namespace Go.Proofs.Ytpkogdpgchibdaa.Ents
open Go.RowKit Plan ModMath CmdMath Rws Env LayMath
/-- what a function that gives a list of strings leaves -/
def SPost (w : World) (F : Nat → Prop) (L : List ByteArray) (r : Ending) (w' : World) : Prop :=
  ∃ a n c, r = .returned (.slice a n c) ∧ SList w' (fun b => F b ∨ w.heap.size ≤ b) a n c L ∧ Below w.heap.size w w'
def APost (w : World) (F : Nat → Prop) (L : List ByteArray) (x : Res) (r : Ending) (w' : World) : Prop :=
  ∃ a n c, r = .returned (.tuple #[.slice a n c, resV x]) ∧ SList w' (fun b => F b ∨ w.heap.size ≤ b) a n c L ∧ Below w.heap.size w w'
set_option maxHeartbeats 8000000 in
set_option maxRecDepth 20000 in
theorem refWith_any (F : Nat → Prop) (B : List ByteArray) (a : Option Addr) (n c i : Nat) (v : ByteArray) (w : World) (hl : SList w F a n c B) (hi : i < n) (hn : n ≤ 8796093022208) :
    Calls Try.prog 24 #[.slice a n c, .int .i64 (i : Int), .string v] w (SPost w F (B.set i v)) := by
  have l0 := hl.rest0
  have K := Env.start w
  have hiI : (i : Int) < (n : Int) := by omega
  have KA : Env w (w.alloc (.cells #[] 9)) (Env.lst SR (Env.slv w.heap.size 0 0) 0 [] :: _) := K.empty SR
  have l1 := l0.keep (K.keep_empty SR)
  have hlen := hl.length
  clear hl l0 K
  unfold SPost
  go_enter Try.func24, Try.ntmps24
  go_wp2_with (first
    | (refine KA.apps_listW srOk rfl (.tmp 8) (.tmp 9) rfl 0 rfl rfl rfl l1 (by omega) (by show (0 + n) * 16 ≤ _; omega) ?_; intro gA cA w1 K9 _; simp only [List.set, Nat.zero_add, List.nil_append] at K9; simp only [Nat.zero_add, Act.put, List.setIfInBounds_toArray, List.set_cons_zero, List.set_cons_succ]; clear KA; obtain ⟨e, he⟩ : ∃ e, B[i]? = some e := ⟨_, List.getElem?_eq_getElem (by omega)⟩; obtain ⟨hc1, hf1⟩ := K9.own1 srOk rfl 0 rfl he (u := .string e) rfl; have K8 := (K9.set1 srOk rfl 0 rfl hi v (u := .string v) rfl).1; simp only [List.set] at K8))
  go_ret
  exact ⟨_, _, _, rfl, (K8.list srOk 0 rfl).mono (fun b _ h => .inr h), K8.hb⟩
set_option maxHeartbeats 8000000 in
set_option maxRecDepth 20000 in
theorem refBNew_any (n : Int) (w : World) :
    Calls Try.prog 14 #[.int .i64 n] w (SPost w (fun _ => False) (newB n)) := by
  have HZ := Lib.hid (fun W => refZero_any W)
  unfold SPost newB
  by_cases h : n < 1 ∨ 128 < n
  · rw [if_pos h]
    clear HZ
    rcases h with h | h
    · go_enter Try.func14, Try.ntmps14
      go_wp2_with fail
      go_ret
      exact ⟨_, _, _, rfl, TList.nil _ _, Below.refl _ _⟩
    · have h2 : ¬ n < 1 := by omega
      go_enter Try.func14, Try.ntmps14
      go_wp2_with fail
      go_ret
      exact ⟨_, _, _, rfl, TList.nil _ _, Below.refl _ _⟩
  · rw [if_neg h]
    obtain ⟨m, rfl⟩ : ∃ m : Nat, n = (m : Int) := ⟨n.toNat, by omega⟩
    have h1 : ¬ (m : Int) < 1 := by omega
    have h2 : ¬ (128 : Int) < (m : Int) := by omega
    have hm : m ≤ 128 := by omega
    have hm1 : 1 ≤ m := by omega
    rw [Int.toNat_natCast]
    have K : Env w (w.alloc (.cells (madeCells #[.string ⟨#[]⟩] m) 9)) (Env.lst SR (Env.slv w.heap.size m m) m (List.replicate m ⟨#[]⟩) :: _) := (Env.start w).made (R := SR) ⟨#[]⟩ m (by unfold maxLen; omega) (made_all rfl _ rfl m).1 (made_all rfl ⟨#[]⟩ rfl m).2
    have hmk := fun W => run_make_row' (P := Try.prog) 22 9 (.string ⟨#[]⟩) 16 Try.underlying22 (show (Try.prog.info? 9).map (fun i => (i.zero, i.size, i.bytes)) = some (some (.string ⟨#[]⟩), 1, 16) by kernel_rfl) rfl .i64 .i64 m (by omega) (by omega) W
    clear h
    go_enter Try.func14, Try.ntmps14
    go_wp2_with fail
    generalize hw0 : w.alloc (.cells (madeCells #[.string ⟨#[]⟩] m) 9) = w0 at *
    clear hw0 hmk
    generalize hG : w.heap.size = G at *
    go_loopw [4] (fun x wr => ∃ j : Nat, x = .int .i64 (j : Int) ∧ j ≤ m ∧ Env w wr [Env.lst SR (Env.slv G m m) m (List.replicate j zeroC ++ List.replicate (m - j) ⟨#[]⟩)]) (fun x _ => m - (intOf x).toNat)
    case atStart => exact ⟨0, rfl, by omega, K⟩
    case round =>
      clear K
      obtain ⟨j, rfl, hj, K⟩ := hrel
      by_cases hlt : j < m
      · have hjI : (j : Int) < (m : Int) := by omega
        have hat : (List.replicate j zeroC ++ List.replicate (m - j) (⟨#[]⟩ : ByteArray))[j]? = some ⟨#[]⟩ := by
          rw [List.getElem?_append_right (by simp), List.length_replicate, Nat.sub_self, List.getElem?_replicate, if_pos (by omega)]
        have hset : (List.replicate j zeroC ++ List.replicate (m - j) (⟨#[]⟩ : ByteArray)).set j zeroC = List.replicate (j + 1) zeroC ++ List.replicate (m - (j + 1)) ⟨#[]⟩ := by
          rw [List.set_append_right _ _ (by simp), List.length_replicate, Nat.sub_self, show m - j = (m - (j + 1)) + 1 by omega, List.replicate_succ (n := m - (j + 1)), List.set_cons_zero, List.replicate_succ' (n := j), List.append_assoc]
          rfl
        go_wp2_with (first
          | (go_at_call 25; ((with_reducible refine (HZ.out _).mono ?_); rintro r9 w1 ⟨rfl, hb⟩; replace K := K.on hb; clear hb; obtain ⟨hc1, hf1⟩ := K.own1 srOk rfl 0 rfl hat (u := .string ⟨#[]⟩) rfl; have K8 := (K.set1 srOk rfl 0 rfl hlt zeroC (u := .string zeroC) rfl).1; rw [hset] at K8; simp only [List.set] at K8)))
        generalize World.setCell w1 _ _ = w2 at *
        go_roundw
        case rel => exact ⟨j + 1, by go_num, by omega, K8⟩
        case measure => simp [intOf]; omega
      · obtain rfl : j = m := by omega
        rw [Nat.sub_self, List.replicate_zero, List.append_nil] at K
        have hjI : ¬ (j : Int) < (j : Int) := by omega
        go_wp2_with fail
        go_ret
        exact ⟨_, _, _, rfl, (K.list srOk 0 rfl).mono (fun b _ h => by first | omega | exact .inr (by omega)), by rw [← hG]; exact K.hb⟩
set_option maxHeartbeats 8000000 in
set_option maxRecDepth 20000 in
theorem refApply_any (F : Nat → Prop) (B : List ByteArray) (a : Option Addr) (n c : Nat) (k b : Int) (s : ByteArray) (w : World) (hl : SList w F a n c B) (hn : n ≤ 8796093022208) :
    Calls Try.prog 9 #[.slice a n c, cmdV k b s] w (APost w F (applyB B ⟨k, b, s⟩) (applyR B ⟨k, b, s⟩)) := by
  have hlen := hl.length
  have HC := Lib.hid (fun W => refCheck_any 0 0 n 0 0 0 k b s W)
  unfold confV at HC
  have hE : errM B ⟨k, b, s⟩ = checkC n k b s.size := by unfold errM; rw [hlen]
  rw [← hE] at HC
  clear hE
  have l0 := ((hl.rest0).keep ((Env.start w).keep_al (.cells #[.int .i64 k, .int .i64 b, .string s] 24))).keep (((Env.start w).al (.cells #[.int .i64 k, .int .i64 b, .string s] 24)).keep_al (.cells #[.int .i64 0, .string ⟨#[]⟩] 30))
  have K := ((Env.start w).al (.cells #[.int .i64 k, .int .i64 b, .string s] 24)).al (.cells #[.int .i64 0, .string ⟨#[]⟩] 30)
  simp only [World.size_alloc] at K l0
  clear hl
  unfold APost
  by_cases hE : errM B ⟨k, b, s⟩ = 0
  · have hz := check_zero (show checkC B.length k b s.size = 0 from hE)
    rw [hlen] at hz
    rw [hE] at HC
    obtain hk | hk | hk | hk : k = 1 ∨ k = 2 ∨ k = 3 ∨ k = 4 := by omega
    · subst hk
      obtain ⟨i, rfl⟩ : ∃ i : Nat, b = (i : Int) := ⟨b.toNat, by omega⟩
      have hi : i < n := by omega
      have hiI : (i : Int) < (n : Int) := by omega
      obtain ⟨s2, hs2⟩ : ∃ s2, B[i]? = some s2 := ⟨_, List.getElem?_eq_getElem (by omega)⟩
      have e9 := apply_read (x := ⟨1, i, s⟩) hE rfl hs2
      rw [e9.1, e9.2]
      obtain ⟨xa, s3, hxa, hs3, _⟩ := str_at l0 i hi
      subst hxa
      have hat := Lib.hid (fun W F (h : SList W F (some xa) n c B) => (show W.cell? (xa.add i) = some (.string s2) from by
        obtain ⟨x4, s4, h4, h5, h6⟩ := str_at h i hi
        obtain rfl := Option.some.inj h4
        rw [hs2] at h5
        obtain rfl := Option.some.inj h5
        exact h6))
      clear e9 hE hs3 hz hs2
      go_enter Try.func9, Try.ntmps9
      generalize hw0 : (w.alloc (.cells #[.int .i64 _, .int .i64 _, .string s] 24)).alloc (.cells #[.int .i64 0, .string ⟨#[]⟩] 30) = w0 at *
      go_upto_region 6 with (first
        | ((with_reducible refine Plan.load_lit 24 (.tmp 3) (w.heap.size) ?_ (K.get 1 rfl) Try.underlying24 ?_ ?_ ?_); (· rfl); (· rfl); (· exact cmd_info); simp only [Act.put, List.setIfInBounds_toArray, List.set_cons_zero, List.set_cons_succ])
        | (go_at_call 23; ((with_reducible refine (HC.out _).mono ?_); rintro r9 w1 ⟨rfl, hb⟩; replace l0 := l0.keep (K.keep_on hb); replace K := K.on hb; clear hb hw0; obtain ⟨c0, c1, c2⟩ := cmd_cells (K.get 1 rfl))))
      refine Plan.start (fun W => (W.cell? ⟨w.heap.size, 0, none⟩ = some (.int .i64 1) ∧ W.cell? ⟨w.heap.size, 1, none⟩ = some (.int .i64 (i : Int)) ∧ W.cell? ⟨w.heap.size, 2, none⟩ = some (.string s)) ∧ W.cell? (xa.add i) = some (.string s2)) [(0, true), (1, true), (2, true), (3, true), (4, true), (5, true), (6, true), (7, true), (8, false)] (by kernel_rfl) (by kernel_rfl) (by kernel_rfl) (by kernel_rfl) ⟨cmd_cells (K.drew.get 1 rfl), hat.out _ _ (l0.keep K.keep_drew)⟩ ?_
      simp only [List.map_cons, List.map_nil, List.getElem?_toArray, List.getElem?_cons_zero, List.getElem?_cons_succ]
      replace l0 := l0.keep K.keep_drew
      replace K := K.drew
      repeat (first | (refine Plan.take ?_ (by rfl) ?_ ?_; rotate_left; (· rintro w9 ⟨⟨u0, u1, u2⟩, u3⟩; go_simp; (try rw [if_neg (by omega)]); all_goals (with_reducible rfl)); simp only [Act.put, List.setIfInBounds_toArray, List.set_cons_zero, List.set_cons_succ]) | (refine Plan.pass (by rfl) ?_; simp only [Act.put, List.setIfInBounds_toArray, List.set_cons_zero, List.set_cons_succ]))
      have k9 := K.keep_put (F := F) 0 rfl (cs' := #[.int .i64 0, .string s2]) rfl
      have K9 := K.put 0 rfl (cs' := #[.int .i64 0, .string s2]) rfl
      simp only [List.set] at K9 k9
      refine Plan.carry (by rfl) (wp_store_row 30 (.tmp 5) (.tmp 27) rfl (w.heap.size + 1) #[.int .i64 0, .string s2] rfl rfl _ _ (K.get 0 rfl) res_info rfl (by simp [Value.oneCell']) ⟨⟨cmd_cells (K9.get 1 rfl), hat.out _ _ (l0.keep k9)⟩, ?_⟩)
      simp only [Act.put]
      refine Plan.ends ?_
      go_wp2_with fail
      exact bodyPost_ret (Plan.results_tmp_cell (p := 5) (q := 4) rfl _ _ _ _ _ _ _ rfl (K9.get 0 rfl) Try.underlying30 rfl res_info) rfl ⟨_, _, _, rfl, (l0.keep k9).leave, K9.hb⟩
    · subst hk
      obtain ⟨i, rfl⟩ : ∃ i : Nat, b = (i : Int) := ⟨b.toNat, by omega⟩
      have hi : i < n := by omega
      have e9 := apply_write (x := ⟨2, i, s⟩) hE rfl
      rw [e9.1, e9.2]
      have HW := Lib.hid (fun W G (h : SList W G a n c B) => refWith_any G B a n c i s W h hi hn)
      unfold SPost at HW
      simp only [Int.toNat_natCast]
      clear e9 hE hz
      go_enter Try.func9, Try.ntmps9
      generalize hw0 : (w.alloc (.cells #[.int .i64 _, .int .i64 _, .string s] 24)).alloc (.cells #[.int .i64 0, .string ⟨#[]⟩] 30) = w0 at *
      go_wp2_with (first
        | ((with_reducible refine Plan.load_lit 24 (.tmp 3) (w.heap.size) ?_ (K.get 1 rfl) Try.underlying24 ?_ ?_ ?_); (· rfl); (· rfl); (· exact cmd_info); simp only [Act.put, List.setIfInBounds_toArray, List.set_cons_zero, List.set_cons_succ])
        | (go_at_call 23; ((with_reducible refine (HC.out _).mono ?_); rintro r9 w1 ⟨rfl, hb⟩; replace l0 := l0.keep (K.keep_on hb); replace K := K.on hb; clear hb hw0; obtain ⟨c0, c1, c2⟩ := cmd_cells (K.get 1 rfl)))
        | (go_at_call 24; ((with_reducible refine (HW.out _ _ l0).mono ?_); rintro r9 w2 ⟨a2, n2, c2, rfl, hx, hb⟩; have l2 := TList.result K hb hx; clear hx l0; replace K := K.on hb; clear hb))
        | ((with_reducible refine Plan.store_lit 30 (.tmp 5) _ (w.heap.size + 1) #[.int .i64 0, .string ⟨#[]⟩] (K.get 0 rfl) ?_ ?_ ?_ ?_ ?_ ?_); rotate_left; (· rfl); (· exact res_info); (· rfl); (· simp [Value.oneCell']); rotate_left; (· rfl); simp only [Act.put]))
      have k9 := K.keep_put (F := F) 0 rfl (cs' := #[.int .i64 0, .string ⟨#[]⟩]) rfl
      have K9 := K.put 0 rfl (cs' := #[.int .i64 0, .string ⟨#[]⟩]) rfl
      simp only [List.set] at K9 k9
      exact bodyPost_ret (Plan.results_tmp_cell (p := 5) (q := 4) rfl _ _ _ _ _ _ _ rfl (K9.get 0 rfl) Try.underlying30 rfl res_info) rfl ⟨_, _, _, rfl, (l2.keep k9).leave, K9.hb⟩
    · subst hk
      obtain ⟨i, rfl⟩ : ∃ i : Nat, b = (i : Int) := ⟨b.toNat, by omega⟩
      have hi : i < n := by omega
      have e9 := apply_trim (x := ⟨3, i, s⟩) hE rfl
      rw [e9.1, e9.2]
      have HW := Lib.hid (fun W G (h : SList W G a n c B) => refWith_any G B a n c i zeroC W h hi hn)
      have HZ := Lib.hid (fun W => refZero_any W)
      unfold SPost at HW
      simp only [Int.toNat_natCast]
      generalize zeroC = Z0 at *
      clear e9 hE hz
      go_enter Try.func9, Try.ntmps9
      generalize hw0 : (w.alloc (.cells #[.int .i64 _, .int .i64 _, .string s] 24)).alloc (.cells #[.int .i64 0, .string ⟨#[]⟩] 30) = w0 at *
      go_upto_region 10 with (first
        | ((with_reducible refine Plan.load_lit 24 (.tmp 3) (w.heap.size) ?_ (K.get 1 rfl) Try.underlying24 ?_ ?_ ?_); (· rfl); (· rfl); (· exact cmd_info); simp only [Act.put, List.setIfInBounds_toArray, List.set_cons_zero, List.set_cons_succ])
        | (go_at_call 23; ((with_reducible refine (HC.out _).mono ?_); rintro r9 w1 ⟨rfl, hb⟩; replace l0 := l0.keep (K.keep_on hb); replace K := K.on hb; clear hb hw0; obtain ⟨c0, c1, c2⟩ := cmd_cells (K.get 1 rfl))))
      refine Plan.start (fun W => (W.cell? ⟨w.heap.size, 0, none⟩ = some (.int .i64 3) ∧ W.cell? ⟨w.heap.size, 1, none⟩ = some (.int .i64 (i : Int)) ∧ W.cell? ⟨w.heap.size, 2, none⟩ = some (.string s))) [(0, true), (1, true), (2, true), (5, true), (3, false), (4, false), (6, true), (7, false)] (by kernel_rfl) (by kernel_rfl) (by kernel_rfl) (by kernel_rfl) (cmd_cells (K.drew.get 1 rfl)) ?_
      simp only [List.map_cons, List.map_nil, List.getElem?_toArray, List.getElem?_cons_zero, List.getElem?_cons_succ]
      replace l0 := l0.keep K.keep_drew
      replace K := K.drew
      repeat (first | (refine Plan.take ?_ (by rfl) ?_ ?_; rotate_left; (· rintro w9 ⟨u0, u1, u2⟩; go_simp; (try rw [if_neg (by omega)]); all_goals (with_reducible rfl)); simp only [Act.put, List.setIfInBounds_toArray, List.set_cons_zero, List.set_cons_succ]) | (refine Plan.pass (by rfl) ?_; simp only [Act.put, List.setIfInBounds_toArray, List.set_cons_zero, List.set_cons_succ]))
      refine Plan.call (by rfl) 25 _ ?_ (HZ.out _) ?_
      · go_simp
      rintro r9 w2 ⟨rfl, hb⟩
      replace l0 := l0.keep (K.keep_on hb)
      replace K := K.on hb
      clear hb
      refine ⟨_, rfl, cmd_cells (K.get 1 rfl), ?_⟩
      simp only [Act.put, List.setIfInBounds_toArray, List.set_cons_zero, List.set_cons_succ]
      refine Plan.call (by rfl) 24 _ ?_ (HW.out _ _ l0) ?_
      · go_simp
      rintro r9 w3 ⟨a2, n2, c2, rfl, hx, hb⟩
      have l2 := TList.result K hb hx
      clear hx l0
      replace K := K.on hb
      clear hb
      refine ⟨_, rfl, cmd_cells (K.get 1 rfl), ?_⟩
      simp only [Act.put, List.setIfInBounds_toArray, List.set_cons_zero, List.set_cons_succ]
      repeat (first | (refine Plan.take ?_ (by rfl) ?_ ?_; rotate_left; (· rintro w9 ⟨u0, u1, u2⟩; go_simp; (try rw [if_neg (by omega)]); all_goals (with_reducible rfl)); simp only [Act.put, List.setIfInBounds_toArray, List.set_cons_zero, List.set_cons_succ]) | (refine Plan.pass (by rfl) ?_; simp only [Act.put, List.setIfInBounds_toArray, List.set_cons_zero, List.set_cons_succ]))
      have k9 := K.keep_put (F := F) 0 rfl (cs' := #[.int .i64 0, .string ⟨#[]⟩]) rfl
      have K9 := K.put 0 rfl (cs' := #[.int .i64 0, .string ⟨#[]⟩]) rfl
      simp only [List.set] at K9 k9
      refine Plan.carry (by rfl) (wp_store_row 30 (.tmp 5) (.tmp 44) rfl (w.heap.size + 1) #[.int .i64 0, .string ⟨#[]⟩] rfl rfl _ _ (K.get 0 rfl) res_info rfl (by simp [Value.oneCell']) ⟨cmd_cells (K9.get 1 rfl), ?_⟩)
      simp only [Act.put]
      refine Plan.ends ?_
      go_wp2_with fail
      exact bodyPost_ret (Plan.results_tmp_cell (p := 5) (q := 4) rfl _ _ _ _ _ _ _ rfl (K9.get 0 rfl) Try.underlying30 rfl res_info) rfl ⟨_, _, _, rfl, (l2.keep k9).leave, K9.hb⟩
    · subst hk
      have e9 := apply_flush (x := ⟨4, b, s⟩) hE rfl
      rw [e9.1, e9.2]
      clear e9 hE hz
      go_enter Try.func9, Try.ntmps9
      generalize hw0 : (w.alloc (.cells #[.int .i64 _, .int .i64 _, .string s] 24)).alloc (.cells #[.int .i64 0, .string ⟨#[]⟩] 30) = w0 at *
      go_wp2_with (first
        | ((with_reducible refine Plan.load_lit 24 (.tmp 3) (w.heap.size) ?_ (K.get 1 rfl) Try.underlying24 ?_ ?_ ?_); (· rfl); (· rfl); (· exact cmd_info); simp only [Act.put, List.setIfInBounds_toArray, List.set_cons_zero, List.set_cons_succ])
        | (go_at_call 23; ((with_reducible refine (HC.out _).mono ?_); rintro r9 w1 ⟨rfl, hb⟩; replace l0 := l0.keep (K.keep_on hb); replace K := K.on hb; clear hb hw0; obtain ⟨c0, c1, c2⟩ := cmd_cells (K.get 1 rfl)))
        | ((with_reducible refine Plan.store_lit 30 (.tmp 5) _ (w.heap.size + 1) #[.int .i64 0, .string ⟨#[]⟩] (K.get 0 rfl) ?_ ?_ ?_ ?_ ?_ ?_); rotate_left; (· rfl); (· exact res_info); (· rfl); (· simp [Value.oneCell']); rotate_left; (· rfl); simp only [Act.put]))
      have k9 := K.keep_put (F := F) 0 rfl (cs' := #[.int .i64 0, .string ⟨#[]⟩]) rfl
      have K9 := K.put 0 rfl (cs' := #[.int .i64 0, .string ⟨#[]⟩]) rfl
      simp only [List.set] at K9 k9
      exact bodyPost_ret (Plan.results_tmp_cell (p := 5) (q := 4) rfl _ _ _ _ _ _ _ rfl (K9.get 0 rfl) Try.underlying30 rfl res_info) rfl ⟨_, _, _, rfl, (l0.keep k9).leave, K9.hb⟩
  · have e9 := apply_bad hE
    rw [e9.1, e9.2]
    generalize errM B ⟨k, b, s⟩ = E at *
    have hE2 : (E != 0) = true := by simpa using hE
    clear e9 hE
    go_enter Try.func9, Try.ntmps9
    generalize hw0 : (w.alloc (.cells #[.int .i64 _, .int .i64 _, .string s] 24)).alloc (.cells #[.int .i64 0, .string ⟨#[]⟩] 30) = w0 at *
    go_wp2_with (first
      | ((with_reducible refine Plan.load_lit 24 (.tmp 3) (w.heap.size) ?_ (K.get 1 rfl) Try.underlying24 ?_ ?_ ?_); (· rfl); (· rfl); (· exact cmd_info); simp only [Act.put, List.setIfInBounds_toArray, List.set_cons_zero, List.set_cons_succ])
      | (go_at_call 23; ((with_reducible refine (HC.out _).mono ?_); rintro r9 w1 ⟨rfl, hb⟩; replace l0 := l0.keep (K.keep_on hb); replace K := K.on hb; clear hb hw0; obtain ⟨c0, c1, c2⟩ := cmd_cells (K.get 1 rfl)))
      | ((with_reducible refine Plan.store_lit 30 (.tmp 5) _ (w.heap.size + 1) #[.int .i64 E, .string ⟨#[]⟩] (K.get 0 rfl) ?_ ?_ ?_ ?_ ?_ ?_); rotate_left; (· rfl); (· exact res_info); (· rfl); (· simp [Value.oneCell']); rotate_left; (· rfl); simp only [Act.put]))
    have k9 := K.keep_put (F := F) 0 rfl (cs' := #[.int .i64 E, .string ⟨#[]⟩]) rfl
    have K9 := K.put 0 rfl (cs' := #[.int .i64 E, .string ⟨#[]⟩]) rfl
    simp only [List.set] at K9 k9
    exact bodyPost_ret (Plan.results_tmp_cell (p := 5) (q := 4) rfl _ _ _ _ _ _ _ rfl (K9.get 0 rfl) Try.underlying30 rfl res_info) rfl ⟨_, _, _, rfl, (l0.keep k9).leave, K9.hb⟩
end Go.Proofs.Ytpkogdpgchibdaa.Ents

/- The walks of the document's Run and Same of blocks. -/
namespace Go.Proofs.Ytpkogdpgchibdaa.ModMath
theorem runB_next {B : List ByteArray} {l : List Cmd} {j : Nat} {x : Cmd} (h : l[j]? = some x) : runB B (l.take (j + 1)) = applyB (runB B (l.take j)) x := by
  rw [List.take_succ_eq_append_getElem (List.getElem?_eq_some_iff.1 h).1, runB_snoc, (List.getElem?_eq_some_iff.1 h).2]
theorem runR_next {B : List ByteArray} {l : List Cmd} {j : Nat} {x : Cmd} (h : l[j]? = some x) : runR B (l.take (j + 1)) = runR B (l.take j) ++ [applyR (runB B (l.take j)) x] := by
  rw [List.take_succ_eq_append_getElem (List.getElem?_eq_some_iff.1 h).1, runR_snoc, (List.getElem?_eq_some_iff.1 h).2]
end Go.Proofs.Ytpkogdpgchibdaa.ModMath
namespace Go.Proofs.Ytpkogdpgchibdaa.Ents
open Go.RowKit Plan ModMath CmdMath Rws Env LayMath
def RPost (w : World) (F : Nat → Prop) (L : List ByteArray) (X : List Res) (r : Ending) (w' : World) : Prop :=
  ∃ a n c b m d, r = .returned (.tuple #[.slice a n c, .slice b m d]) ∧ SList w' (fun b => F b ∨ w.heap.size ≤ b) a n c L ∧ OList w' (fun b => F b ∨ w.heap.size ≤ b) b m d X ∧ Below w.heap.size w w'
set_option maxHeartbeats 8000000 in
set_option maxRecDepth 20000 in
theorem refRun_any (F F2 : Nat → Prop) (B : List ByteArray) (l : List Cmd) (a b : Option Addr) (n c m d : Nat) (w : World) (hl : SList w F a n c B) (hk : CList' w F2 b m d l) (hn : n ≤ 8796093022208) (hm : m ≤ 100000) :
    Calls Try.prog 11 #[.slice a n c, .slice b m d] w (RPost w F (runB B l) (runR B l)) := by
  have hlen := hl.length
  have hlm := hk.length
  have HC := Lib.hid (fun W (h : Below w.heap.size w W) i (hi : i < m) => cmd_at (hk.same h) i hi)
  have l0 := hl.rest0.keep ((Env.start w).keep_nil OR)
  have K := (Env.start w).nil OR
  clear hl hk
  unfold RPost
  go_enter Try.func11, Try.ntmps11
  go_wp2_with fail
  go_loopw [0, 6, 7] (fun y v x wr => ∃ (j : Nat) (a : Option Addr) (c : Nat) (u : Value), x = .int .i64 (j : Int) ∧ j ≤ m ∧ y = .slice a n c ∧ v = u ∧ Env w wr [Env.lst OR u j (runR B (l.take j))] ∧ SList wr (Quiet w F wr [Env.lst OR u j (runR B (l.take j))]) a n c (runB B (l.take j))) (fun _ _ x _ => m - (intOf x).toNat)
  case atStart => exact ⟨0, a, c, _, rfl, by omega, rfl, rfl, K, l0⟩
  case round =>
    clear K l0
    obtain ⟨j, a, c, u, rfl, hj, rfl, rfl, K, l0⟩ := hrel
    by_cases hlt : j < m
    · obtain ⟨x, r, rfl, hr, e0, e1, e2⟩ := HC.out wr K.hb j hlt
      have hjI : (j : Int) < (m : Int) := by omega
      have q1 := Lib.hid (runB_next (B := B) hr)
      have q2 := Lib.hid (runR_next (B := B) hr)
      have hbl := run_len B (l.take j)
      obtain ⟨xk, xb, xs⟩ := r
      simp only at e0 e1 e2
      have HA := Lib.hid (fun W F a c (h : SList W F a n c (runB B (l.take j))) => refApply_any F _ a n c xk xb xs W h hn)
      unfold APost at HA
      have hal := apply_len (runB B (l.take j)) ⟨xk, xb, xs⟩
      rw [hbl, hlen] at hal
      generalize runB B (l.take j) = BB at *
      generalize runR B (l.take j) = RX at *
      generalize applyB BB ⟨xk, xb, xs⟩ = BA at *
      generalize applyR BB ⟨xk, xb, xs⟩ = Z at *
      obtain ⟨ze, zd⟩ := Z
      simp only [resV] at HA
      clear hr hbl
      go_wp2_with (first
        | (go_at_call 9; ((with_reducible refine (HA.out _ _ _ _ l0).mono ?_); rintro r9 w1 ⟨a2, n2, c2, rfl, hx, hb⟩; have l2 := TList.result K hb hx; clear hx l0; replace K := K.on hb; clear hb; replace l2 := l2.keep (K.keep_al (F := F) (.cells #[.int .i64 ze, .string zd] 30)); replace K := K.al (.cells #[.int .i64 ze, .string zd] 30); have KB := K.al (.cells #[.int .i64 ze, .string zd] 30); have kB := K.keep_al (F := F) (.cells #[.int .i64 ze, .string zd] 30); simp only [World.size_alloc] at KB kB))
        | (refine KB.apps_one orOk rfl (.tmp 26) (.tmp 28) rfl 2 0 rfl rfl (e := ⟨ze, zd⟩) rfl rfl (by omega) ?_; intro g3 c3 w3 K8 k8; simp only [List.set] at K8 k8; simp only [Act.put, List.setIfInBounds_toArray, List.set_cons_zero, List.set_cons_succ]; replace l2 := (l2.keep kB).keep (k8 F); clear KB K k8 kB))
      have hq := l2.length
      obtain rfl : n2 = n := by omega
      have k9 := K8.keep_sub (F := F) (T' := [Env.lst OR (Env.slv g3 (j + 1) c3) (j + 1) (RX ++ [⟨ze, zd⟩])]) (fun y hy => by rw [List.mem_singleton.1 hy]; exact List.mem_of_getElem? (i := 2) rfl)
      have K9 := K8.sub (T' := [Env.lst OR (Env.slv g3 (j + 1) c3) (j + 1) (RX ++ [⟨ze, zd⟩])]) [2] rfl (by simp) (by simp)
      replace l2 := l2.keep k9
      rw [← q1.out, ← q2.out] at l2
      rw [← q2.out] at K9
      go_roundw
      case rel => exact ⟨j + 1, a2, c2, _, by go_num, by omega, rfl, rfl, K9, l2⟩
      case measure => simp [intOf]; omega
    · obtain rfl : j = m := by omega
      have hjI : ¬ (j : Int) < (j : Int) := by omega
      rw [List.take_of_length_le (by omega)] at K l0
      go_wp2_with fail
      go_ret2
      obtain ⟨a9, c9, e9, l9⟩ := owns_list (F := fun b => w.heap.size ≤ b) orOk (K.own 0 rfl) (fun b h9 => ((K.own 0 rfl).lt b h9).1)
      cases e9
      exact ⟨_, _, _, _, _, _, rfl, l0.leave, l9.mono (fun b _ h => .inr h), K.hb⟩
set_option maxHeartbeats 8000000 in
set_option maxRecDepth 20000 in
theorem refBSame_any (F G : Nat → Prop) (B : List ByteArray) (a b : Option Addr) (n c m d : Nat) (w : World) (hl : SList w F a n c B) (hk : SList w G b m d B) :
    Calls Try.prog 12 #[.slice a n c, .slice b m d] w fun r w' => r = .returned (.bool true) ∧ Below w.heap.size w w' := by
  have hlen := hl.length
  obtain rfl : n = m := hlen.symm.trans hk.length
  have hmx : n ≤ maxLen := Nat.le_trans hl.cap.1 hl.cap.2
  unfold maxLen at hmx
  have HA := Lib.hid (fun W (h : Below w.heap.size w W) i (hi : i < n) => str_at (hl.same h) i hi)
  have HB := Lib.hid (fun W (h : Below w.heap.size w W) i (hi : i < n) => str_at (hk.same h) i hi)
  have hb := Below.refl w.heap.size w
  clear hl hk
  go_enter Try.func12, Try.ntmps12
  go_wp2_with fail
  go_loopw [5] (fun x wr => ∃ j : Nat, x = .int .i64 (j : Int) ∧ j ≤ n ∧ Below w.heap.size w wr) (fun x _ => n - (intOf x).toNat)
  case atStart => exact ⟨0, rfl, by omega, hb⟩
  case round =>
    clear hb
    obtain ⟨j, rfl, hj, hb⟩ := hrel
    by_cases hlt : j < n
    · obtain ⟨x, e, rfl, he, hat⟩ := HA.out wr hb j hlt
      obtain ⟨y, f, rfl, hf, haf⟩ := HB.out wr hb j hlt
      rw [he] at hf
      obtain rfl := Option.some.inj hf
      have hjI : (j : Int) < (n : Int) := by omega
      clear hf he
      go_upto_region 6 with fail
      refine Plan.start (fun W => W.cell? (x.add j) = some (.string e) ∧ W.cell? (y.add j) = some (.string e)) [(0, true), (1, true), (2, true), (3, true), (4, true), (5, true), (6, true), (7, true), (8, true)] (by kernel_rfl) (by kernel_rfl) (by kernel_rfl) (by kernel_rfl) ⟨hat, haf⟩ ?_
      simp only [List.map_cons, List.map_nil, List.getElem?_toArray, List.getElem?_cons_zero, List.getElem?_cons_succ]
      repeat (first | (refine Plan.take ?_ (by rfl) ?_ ?_; rotate_left; (· rintro w9 ⟨u0, u1⟩; go_simp; (try rw [if_neg (by omega)]); all_goals (with_reducible rfl)); simp only [Act.put, List.setIfInBounds_toArray, List.set_cons_zero, List.set_cons_succ]) | (refine Plan.pass (by rfl) ?_; simp only [Act.put, List.setIfInBounds_toArray, List.set_cons_zero, List.set_cons_succ]))
      refine Plan.ends ?_
      replace hb := hb.drew
      clear hat haf
      go_wp2_with fail
      go_roundw
      case rel => exact ⟨j + 1, by go_num, by omega, hb⟩
      case measure => simp [intOf]; omega
    · obtain rfl : j = n := by omega
      go_wp2_with fail
      go_ret
      exact ⟨rfl, hb⟩
end Go.Proofs.Ytpkogdpgchibdaa.Ents

/- What the program promises of blocks; the walks of the laws' light and awake. -/
namespace Go.Proofs.Ytpkogdpgchibdaa.ModMath
open Go Go.RowKit
/-- the sum of light, as Go's int holds it -/
def sumW (B : List ByteArray) : Int := B.foldl (fun z s => wrap64 (wrap64 (z + 4) + s.size)) 0
def lightB (B : List ByteArray) : Bool := decide (sumW B ≤ 4000)
theorem sum_next {B : List ByteArray} {j : Nat} {s : ByteArray} (h : B[j]? = some s) : sumW (B.take (j + 1)) = wrap64 (wrap64 (sumW (B.take j) + 4) + s.size) := by
  rw [List.take_succ_eq_append_getElem (List.getElem?_eq_some_iff.1 h).1, (List.getElem?_eq_some_iff.1 h).2]
  simp [sumW]
end Go.Proofs.Ytpkogdpgchibdaa.ModMath
namespace Go.Proofs.Ytpkogdpgchibdaa.Ents
open Go.RowKit Plan ModMath CmdMath Rws Env LayMath
theorem r_bool {a b : Bool} (h : a = b) : Ending.returned (.bool a) = .returned (.bool b) := by rw [h]
structure ModelOk : Prop where
  new : ∀ (n : Int) (w : World), Calls Try.prog 13 #[.int .i64 n] w (SPost w (fun _ => False) (newB n))
  apply : ∀ (F : Nat → Prop) (B : List ByteArray) (a : Option Addr) (n c : Nat) (k b : Int) (s : ByteArray) (w : World), SList w F a n c B → n ≤ 8796093022208 →
    Calls Try.prog 8 #[.slice a n c, cmdV k b s] w (APost w F (applyB B ⟨k, b, s⟩) (applyR B ⟨k, b, s⟩))
  run : ∀ (F F2 : Nat → Prop) (B : List ByteArray) (l : List Cmd) (a b : Option Addr) (n c m d : Nat) (w : World), SList w F a n c B → CList' w F2 b m d l → n ≤ 8796093022208 → m ≤ 100000 →
    Calls Try.prog 10 #[.slice a n c, .slice b m d] w (RPost w F (runB B l) (runR B l))
theorem modLight_any (F : Nat → Prop) (B : List ByteArray) (a : Option Addr) (n c : Nat) (w : World) (hl : SList w F a n c B) :
    Calls Try.prog 6 #[.slice a n c] w fun r w' => r = .returned (.bool (lightB B)) ∧ Below w.heap.size w w' := by
  have hmx : n ≤ maxLen := Nat.le_trans hl.cap.1 hl.cap.2
  unfold maxLen at hmx
  have hlen := hl.length
  have HA := Lib.hid (fun W (h : Below w.heap.size w W) i (hi : i < n) => str_at (hl.same h) i hi)
  have hb := Below.refl w.heap.size w
  clear hl
  go_enter Try.func6, Try.ntmps6
  go_wp2_with fail
  go_loopw [3, 4] (fun y x wr => ∃ (j : Nat) (z : Int), x = .int .i64 (j : Int) ∧ y = .int .i64 z ∧ RowKit.Hid (sumW (B.take j) = z) ∧ j ≤ n ∧ Below w.heap.size w wr) (fun _ x _ => n - (intOf x).toNat)
  case atStart => exact ⟨0, 0, rfl, rfl, Lib.hid rfl, by omega, hb⟩
  case round =>
    clear hb
    obtain ⟨j, z, rfl, rfl, hz, hj, hb⟩ := hrel
    by_cases hlt : j < n
    · obtain ⟨x, e, rfl, he, hat⟩ := HA.out wr hb j hlt
      have hjI : (j : Int) < (n : Int) := by omega
      have hn := Lib.hid (sum_next he)
      rw [hz.out] at hn
      clear he hz
      go_wp2_with fail
      go_roundw
      case rel => exact ⟨j + 1, _, by go_num, rfl, hn, by omega, hb⟩
      case measure => simp [intOf]; omega
    · obtain rfl : j = n := by omega
      rw [List.take_of_length_le (by omega)] at hz
      have hq : RowKit.Hid (lightB B = decide (z ≤ 4000)) := Lib.hid (by unfold lightB; rw [hz.out])
      clear hz
      go_wp2_with fail
      go_ret
      exact ⟨r_bool hq.out.symm, hb⟩
end Go.Proofs.Ytpkogdpgchibdaa.Ents
