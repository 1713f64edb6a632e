/- Texts that belong together, part 22. -/
import Derived.Test.YtnmhnjjehglcfaaGreatPack21

/- The walks of the document's with, New and Apply of blocks. -/
namespace Go.Proofs.YtnmhnjjehglcfaaGreat.Ents
open Go.RowKit Plan ModMath CmdMath Rws Env LayMath
/-- what a function that gives a list of strings leaves -/
def SPost (w : World) (F : Nat → Prop) (L : List ByteArray) (r : Ending) (w' : World) : Prop :=
  ∃ a n c, r = .returned (.slice a n c) ∧ SList w' (fun b => F b ∨ w.heap.size ≤ b) a n c L ∧ Below w.heap.size w w'
def APost (w : World) (F : Nat → Prop) (L : List ByteArray) (x : Res) (r : Ending) (w' : World) : Prop :=
  ∃ a n c, r = .returned (.tuple #[.slice a n c, resV x]) ∧ SList w' (fun b => F b ∨ w.heap.size ≤ b) a n c L ∧ Below w.heap.size w w'
set_option maxHeartbeats 8000000 in
set_option maxRecDepth 20000 in
theorem refWith_any (F : Nat → Prop) (B : List ByteArray) (a : Option Addr) (n c i : Nat) (v : ByteArray) (w : World) (hl : SList w F a n c B) (hi : i < n) (hn : n ≤ 8796093022208) :
    Calls Tryz.prog 59 #[.slice a n c, .int .i64 (i : Int), .string v] w (SPost w F (B.set i v)) := by
  have l0 := hl.rest0
  have K := Env.start w
  have hiI : (i : Int) < (n : Int) := by omega
  have KA : Env w (w.alloc (.cells #[] 9)) (Env.lst SR (Env.slv w.heap.size 0 0) 0 [] :: _) := K.empty SR
  have l1 := l0.keep (K.keep_empty SR)
  have hlen := hl.length
  clear hl l0 K
  unfold SPost
  go_enter Tryz.func59, Tryz.ntmps59
  go_wp2_with (first
    | (refine KA.apps_listW srOk rfl (.tmp 8) (.tmp 9) rfl 0 rfl rfl rfl l1 (by omega) (by show (0 + n) * 16 ≤ _; omega) ?_; intro gA cA w1 K9 _; simp only [List.set, Nat.zero_add, List.nil_append] at K9; simp only [Nat.zero_add, Act.put, List.setIfInBounds_toArray, List.set_cons_zero, List.set_cons_succ]; clear KA; obtain ⟨e, he⟩ : ∃ e, B[i]? = some e := ⟨_, List.getElem?_eq_getElem (by omega)⟩; obtain ⟨hc1, hf1⟩ := K9.own1 srOk rfl 0 rfl he (u := .string e) rfl; have K8 := (K9.set1 srOk rfl 0 rfl hi v (u := .string v) rfl).1; simp only [List.set] at K8))
  go_ret
  exact ⟨_, _, _, rfl, (K8.list srOk 0 rfl).mono (fun b _ h => .inr h), K8.hb⟩
set_option maxHeartbeats 8000000 in
set_option maxRecDepth 20000 in
theorem refBNew_any (n : Int) (w : World) :
    Calls Tryz.prog 16 #[.int .i64 n] w (SPost w (fun _ => False) (newB n)) := by
  have HZ := Lib.hid (fun W => refZero_any W)
  unfold SPost newB
  by_cases h : n < 1 ∨ 128 < n
  · rw [if_pos h]
    clear HZ
    rcases h with h | h
    · go_enter Tryz.func16, Tryz.ntmps16
      go_wp2_with fail
      go_ret
      exact ⟨_, _, _, rfl, TList.nil _ _, Below.refl _ _⟩
    · have h2 : ¬ n < 1 := by omega
      go_enter Tryz.func16, Tryz.ntmps16
      go_wp2_with fail
      go_ret
      exact ⟨_, _, _, rfl, TList.nil _ _, Below.refl _ _⟩
  · rw [if_neg h]
    obtain ⟨m, rfl⟩ : ∃ m : Nat, n = (m : Int) := ⟨n.toNat, by omega⟩
    have h1 : ¬ (m : Int) < 1 := by omega
    have h2 : ¬ (128 : Int) < (m : Int) := by omega
    have hm : m ≤ 128 := by omega
    have hm1 : 1 ≤ m := by omega
    rw [Int.toNat_natCast]
    have K : Env w (w.alloc (.cells (madeCells #[.string ⟨#[]⟩] m) 9)) (Env.lst SR (Env.slv w.heap.size m m) m (List.replicate m ⟨#[]⟩) :: _) := (Env.start w).made (R := SR) ⟨#[]⟩ m (by unfold maxLen; omega) (made_all rfl _ rfl m).1 (made_all rfl ⟨#[]⟩ rfl m).2
    have hmk := fun W => run_make_row' (P := Tryz.prog) 22 9 (.string ⟨#[]⟩) 16 Tryz.underlying22 (show (Tryz.prog.info? 9).map (fun i => (i.zero, i.size, i.bytes)) = some (some (.string ⟨#[]⟩), 1, 16) by kernel_rfl) rfl .i64 .i64 m (by omega) (by omega) W
    clear h
    go_enter Tryz.func16, Tryz.ntmps16
    go_wp2_with fail
    generalize hw0 : w.alloc (.cells (madeCells #[.string ⟨#[]⟩] m) 9) = w0 at *
    clear hw0 hmk
    generalize hG : w.heap.size = G at *
    go_loopw [4] (fun x wr => ∃ j : Nat, x = .int .i64 (j : Int) ∧ j ≤ m ∧ Env w wr [Env.lst SR (Env.slv G m m) m (List.replicate j zeroC ++ List.replicate (m - j) ⟨#[]⟩)]) (fun x _ => m - (intOf x).toNat)
    case atStart => exact ⟨0, rfl, by omega, K⟩
    case round =>
      clear K
      obtain ⟨j, rfl, hj, K⟩ := hrel
      by_cases hlt : j < m
      · have hjI : (j : Int) < (m : Int) := by omega
        have hat : (List.replicate j zeroC ++ List.replicate (m - j) (⟨#[]⟩ : ByteArray))[j]? = some ⟨#[]⟩ := by
          rw [List.getElem?_append_right (by simp), List.length_replicate, Nat.sub_self, List.getElem?_replicate, if_pos (by omega)]
        have hset : (List.replicate j zeroC ++ List.replicate (m - j) (⟨#[]⟩ : ByteArray)).set j zeroC = List.replicate (j + 1) zeroC ++ List.replicate (m - (j + 1)) ⟨#[]⟩ := by
          rw [List.set_append_right _ _ (by simp), List.length_replicate, Nat.sub_self, show m - j = (m - (j + 1)) + 1 by omega, List.replicate_succ (n := m - (j + 1)), List.set_cons_zero, List.replicate_succ' (n := j), List.append_assoc]
          rfl
        go_wp2_with (first
          | (go_at_call 45; ((with_reducible refine (HZ.out _).mono ?_); rintro r9 w1 ⟨rfl, hb⟩; replace K := K.on hb; clear hb; obtain ⟨hc1, hf1⟩ := K.own1 srOk rfl 0 rfl hat (u := .string ⟨#[]⟩) rfl; have K8 := (K.set1 srOk rfl 0 rfl hlt zeroC (u := .string zeroC) rfl).1; rw [hset] at K8; simp only [List.set] at K8)))
        generalize World.setCell w1 _ _ = w2 at *
        go_roundw
        case rel => exact ⟨j + 1, by go_num, by omega, K8⟩
        case measure => simp [intOf]; omega
      · obtain rfl : j = m := by omega
        rw [Nat.sub_self, List.replicate_zero, List.append_nil] at K
        have hjI : ¬ (j : Int) < (j : Int) := by omega
        go_wp2_with fail
        go_ret
        exact ⟨_, _, _, rfl, (K.list srOk 0 rfl).mono (fun b _ h => by first | omega | exact .inr (by omega)), by rw [← hG]; exact K.hb⟩
set_option maxHeartbeats 8000000 in
set_option maxRecDepth 20000 in
theorem refApply_any (F : Nat → Prop) (B : List ByteArray) (a : Option Addr) (n c : Nat) (k b : Int) (s : ByteArray) (w : World) (hl : SList w F a n c B) (hn : n ≤ 8796093022208) :
    Calls Tryz.prog 30 #[.slice a n c, cmdV k b s] w (APost w F (applyB B ⟨k, b, s⟩) (applyR B ⟨k, b, s⟩)) := by
  have hlen := hl.length
  have HC := Lib.hid (fun W => refCheck_any 0 0 n 0 0 0 k b s W)
  unfold confV at HC
  have hE : errM B ⟨k, b, s⟩ = checkC n k b s.size := by unfold errM; rw [hlen]
  rw [← hE] at HC
  clear hE
  have l0 := ((hl.rest0).keep ((Env.start w).keep_al (.cells #[.int .i64 k, .int .i64 b, .string s] 51))).keep (((Env.start w).al (.cells #[.int .i64 k, .int .i64 b, .string s] 51)).keep_al (.cells #[.int .i64 0, .string ⟨#[]⟩] 53))
  have K := ((Env.start w).al (.cells #[.int .i64 k, .int .i64 b, .string s] 51)).al (.cells #[.int .i64 0, .string ⟨#[]⟩] 53)
  simp only [World.size_alloc] at K l0
  clear hl
  unfold APost
  by_cases hE : errM B ⟨k, b, s⟩ = 0
  · have hz := check_zero (show checkC B.length k b s.size = 0 from hE)
    rw [hlen] at hz
    rw [hE] at HC
    obtain hk | hk | hk | hk : k = 1 ∨ k = 2 ∨ k = 3 ∨ k = 4 := by omega
    · subst hk
      obtain ⟨i, rfl⟩ : ∃ i : Nat, b = (i : Int) := ⟨b.toNat, by omega⟩
      have hi : i < n := by omega
      have hiI : (i : Int) < (n : Int) := by omega
      obtain ⟨s2, hs2⟩ : ∃ s2, B[i]? = some s2 := ⟨_, List.getElem?_eq_getElem (by omega)⟩
      have e9 := apply_read (x := ⟨1, i, s⟩) hE rfl hs2
      rw [e9.1, e9.2]
      obtain ⟨xa, s3, hxa, hs3, _⟩ := str_at l0 i hi
      subst hxa
      have hat := Lib.hid (fun W F (h : SList W F (some xa) n c B) => (show W.cell? (xa.add i) = some (.string s2) from by
        obtain ⟨x4, s4, h4, h5, h6⟩ := str_at h i hi
        obtain rfl := Option.some.inj h4
        rw [hs2] at h5
        obtain rfl := Option.some.inj h5
        exact h6))
      clear e9 hE hs3 hz hs2
      go_enter Tryz.func30, Tryz.ntmps30
      generalize hw0 : (w.alloc (.cells #[.int .i64 _, .int .i64 _, .string s] 51)).alloc (.cells #[.int .i64 0, .string ⟨#[]⟩] 53) = w0 at *
      go_upto_region 6 with (first
        | ((with_reducible refine Plan.load_lit 51 (.tmp 3) (w.heap.size) ?_ (K.get 1 rfl) Tryz.underlying51 ?_ ?_ ?_); (· rfl); (· rfl); (· exact cmd_info); simp only [Act.put, List.setIfInBounds_toArray, List.set_cons_zero, List.set_cons_succ])
        | (go_at_call 58; ((with_reducible refine (HC.out _).mono ?_); rintro r9 w1 ⟨rfl, hb⟩; replace l0 := l0.keep (K.keep_on hb); replace K := K.on hb; clear hb hw0; obtain ⟨c0, c1, c2⟩ := cmd_cells (K.get 1 rfl))))
      refine Plan.start (fun W => (W.cell? ⟨w.heap.size, 0, none⟩ = some (.int .i64 1) ∧ W.cell? ⟨w.heap.size, 1, none⟩ = some (.int .i64 (i : Int)) ∧ W.cell? ⟨w.heap.size, 2, none⟩ = some (.string s)) ∧ W.cell? (xa.add i) = some (.string s2)) [(0, true), (1, true), (2, true), (3, true), (4, true), (5, true), (6, true), (7, true), (8, false)] (by kernel_rfl) (by kernel_rfl) (by kernel_rfl) (by kernel_rfl) ⟨cmd_cells (K.drew.get 1 rfl), hat.out _ _ (l0.keep K.keep_drew)⟩ ?_
      simp only [List.map_cons, List.map_nil, List.getElem?_toArray, List.getElem?_cons_zero, List.getElem?_cons_succ]
      replace l0 := l0.keep K.keep_drew
      replace K := K.drew
      repeat (first | (refine Plan.take ?_ (by rfl) ?_ ?_; rotate_left; (· rintro w9 ⟨⟨u0, u1, u2⟩, u3⟩; go_simp; (try rw [if_neg (by omega)]); all_goals (with_reducible rfl)); simp only [Act.put, List.setIfInBounds_toArray, List.set_cons_zero, List.set_cons_succ]) | (refine Plan.pass (by rfl) ?_; simp only [Act.put, List.setIfInBounds_toArray, List.set_cons_zero, List.set_cons_succ]))
      have k9 := K.keep_put (F := F) 0 rfl (cs' := #[.int .i64 0, .string s2]) rfl
      have K9 := K.put 0 rfl (cs' := #[.int .i64 0, .string s2]) rfl
      simp only [List.set] at K9 k9
      refine Plan.carry (by rfl) (wp_store_row 53 (.tmp 5) (.tmp 27) rfl (w.heap.size + 1) #[.int .i64 0, .string s2] rfl rfl _ _ (K.get 0 rfl) res_info rfl (by simp [Value.oneCell']) ⟨⟨cmd_cells (K9.get 1 rfl), hat.out _ _ (l0.keep k9)⟩, ?_⟩)
      simp only [Act.put]
      refine Plan.ends ?_
      go_wp2_with fail
      exact bodyPost_ret (Plan.results_tmp_cell (p := 5) (q := 4) rfl _ _ _ _ _ _ _ rfl (K9.get 0 rfl) Tryz.underlying53 rfl res_info) rfl ⟨_, _, _, rfl, (l0.keep k9).leave, K9.hb⟩
    · subst hk
      obtain ⟨i, rfl⟩ : ∃ i : Nat, b = (i : Int) := ⟨b.toNat, by omega⟩
      have hi : i < n := by omega
      have e9 := apply_write (x := ⟨2, i, s⟩) hE rfl
      rw [e9.1, e9.2]
      have HW := Lib.hid (fun W G (h : SList W G a n c B) => refWith_any G B a n c i s W h hi hn)
      unfold SPost at HW
      simp only [Int.toNat_natCast]
      clear e9 hE hz
      go_enter Tryz.func30, Tryz.ntmps30
      generalize hw0 : (w.alloc (.cells #[.int .i64 _, .int .i64 _, .string s] 51)).alloc (.cells #[.int .i64 0, .string ⟨#[]⟩] 53) = w0 at *
      go_wp2_with (first
        | ((with_reducible refine Plan.load_lit 51 (.tmp 3) (w.heap.size) ?_ (K.get 1 rfl) Tryz.underlying51 ?_ ?_ ?_); (· rfl); (· rfl); (· exact cmd_info); simp only [Act.put, List.setIfInBounds_toArray, List.set_cons_zero, List.set_cons_succ])
        | (go_at_call 58; ((with_reducible refine (HC.out _).mono ?_); rintro r9 w1 ⟨rfl, hb⟩; replace l0 := l0.keep (K.keep_on hb); replace K := K.on hb; clear hb hw0; obtain ⟨c0, c1, c2⟩ := cmd_cells (K.get 1 rfl)))
        | (go_at_call 59; ((with_reducible refine (HW.out _ _ l0).mono ?_); rintro r9 w2 ⟨a2, n2, c2, rfl, hx, hb⟩; have l2 := TList.result K hb hx; clear hx l0; replace K := K.on hb; clear hb))
        | ((with_reducible refine Plan.store_lit 53 (.tmp 5) _ (w.heap.size + 1) #[.int .i64 0, .string ⟨#[]⟩] (K.get 0 rfl) ?_ ?_ ?_ ?_ ?_ ?_); rotate_left; (· rfl); (· exact res_info); (· rfl); (· simp [Value.oneCell']); rotate_left; (· rfl); simp only [Act.put]))
      have k9 := K.keep_put (F := F) 0 rfl (cs' := #[.int .i64 0, .string ⟨#[]⟩]) rfl
      have K9 := K.put 0 rfl (cs' := #[.int .i64 0, .string ⟨#[]⟩]) rfl
      simp only [List.set] at K9 k9
      exact bodyPost_ret (Plan.results_tmp_cell (p := 5) (q := 4) rfl _ _ _ _ _ _ _ rfl (K9.get 0 rfl) Tryz.underlying53 rfl res_info) rfl ⟨_, _, _, rfl, (l2.keep k9).leave, K9.hb⟩
    · subst hk
      obtain ⟨i, rfl⟩ : ∃ i : Nat, b = (i : Int) := ⟨b.toNat, by omega⟩
      have hi : i < n := by omega
      have e9 := apply_trim (x := ⟨3, i, s⟩) hE rfl
      rw [e9.1, e9.2]
      have HW := Lib.hid (fun W G (h : SList W G a n c B) => refWith_any G B a n c i zeroC W h hi hn)
      have HZ := Lib.hid (fun W => refZero_any W)
      unfold SPost at HW
      simp only [Int.toNat_natCast]
      generalize zeroC = Z0 at *
      clear e9 hE hz
      go_enter Tryz.func30, Tryz.ntmps30
      generalize hw0 : (w.alloc (.cells #[.int .i64 _, .int .i64 _, .string s] 51)).alloc (.cells #[.int .i64 0, .string ⟨#[]⟩] 53) = w0 at *
      go_upto_region 10 with (first
        | ((with_reducible refine Plan.load_lit 51 (.tmp 3) (w.heap.size) ?_ (K.get 1 rfl) Tryz.underlying51 ?_ ?_ ?_); (· rfl); (· rfl); (· exact cmd_info); simp only [Act.put, List.setIfInBounds_toArray, List.set_cons_zero, List.set_cons_succ])
        | (go_at_call 58; ((with_reducible refine (HC.out _).mono ?_); rintro r9 w1 ⟨rfl, hb⟩; replace l0 := l0.keep (K.keep_on hb); replace K := K.on hb; clear hb hw0; obtain ⟨c0, c1, c2⟩ := cmd_cells (K.get 1 rfl))))
      refine Plan.start (fun W => (W.cell? ⟨w.heap.size, 0, none⟩ = some (.int .i64 3) ∧ W.cell? ⟨w.heap.size, 1, none⟩ = some (.int .i64 (i : Int)) ∧ W.cell? ⟨w.heap.size, 2, none⟩ = some (.string s))) [(0, true), (1, true), (2, true), (5, true), (3, false), (4, false), (6, true), (7, false)] (by kernel_rfl) (by kernel_rfl) (by kernel_rfl) (by kernel_rfl) (cmd_cells (K.drew.get 1 rfl)) ?_
      simp only [List.map_cons, List.map_nil, List.getElem?_toArray, List.getElem?_cons_zero, List.getElem?_cons_succ]
      replace l0 := l0.keep K.keep_drew
      replace K := K.drew
      repeat (first | (refine Plan.take ?_ (by rfl) ?_ ?_; rotate_left; (· rintro w9 ⟨u0, u1, u2⟩; go_simp; (try rw [if_neg (by omega)]); all_goals (with_reducible rfl)); simp only [Act.put, List.setIfInBounds_toArray, List.set_cons_zero, List.set_cons_succ]) | (refine Plan.pass (by rfl) ?_; simp only [Act.put, List.setIfInBounds_toArray, List.set_cons_zero, List.set_cons_succ]))
      refine Plan.call (by rfl) 45 _ ?_ (HZ.out _) ?_
      · go_simp
      rintro r9 w2 ⟨rfl, hb⟩
      replace l0 := l0.keep (K.keep_on hb)
      replace K := K.on hb
      clear hb
      refine ⟨_, rfl, cmd_cells (K.get 1 rfl), ?_⟩
      simp only [Act.put, List.setIfInBounds_toArray, List.set_cons_zero, List.set_cons_succ]
      refine Plan.call (by rfl) 59 _ ?_ (HW.out _ _ l0) ?_
      · go_simp
      rintro r9 w3 ⟨a2, n2, c2, rfl, hx, hb⟩
      have l2 := TList.result K hb hx
      clear hx l0
      replace K := K.on hb
      clear hb
      refine ⟨_, rfl, cmd_cells (K.get 1 rfl), ?_⟩
      simp only [Act.put, List.setIfInBounds_toArray, List.set_cons_zero, List.set_cons_succ]
      repeat (first | (refine Plan.take ?_ (by rfl) ?_ ?_; rotate_left; (· rintro w9 ⟨u0, u1, u2⟩; go_simp; (try rw [if_neg (by omega)]); all_goals (with_reducible rfl)); simp only [Act.put, List.setIfInBounds_toArray, List.set_cons_zero, List.set_cons_succ]) | (refine Plan.pass (by rfl) ?_; simp only [Act.put, List.setIfInBounds_toArray, List.set_cons_zero, List.set_cons_succ]))
      have k9 := K.keep_put (F := F) 0 rfl (cs' := #[.int .i64 0, .string ⟨#[]⟩]) rfl
      have K9 := K.put 0 rfl (cs' := #[.int .i64 0, .string ⟨#[]⟩]) rfl
      simp only [List.set] at K9 k9
      refine Plan.carry (by rfl) (wp_store_row 53 (.tmp 5) (.tmp 44) rfl (w.heap.size + 1) #[.int .i64 0, .string ⟨#[]⟩] rfl rfl _ _ (K.get 0 rfl) res_info rfl (by simp [Value.oneCell']) ⟨cmd_cells (K9.get 1 rfl), ?_⟩)
      simp only [Act.put]
      refine Plan.ends ?_
      go_wp2_with fail
      exact bodyPost_ret (Plan.results_tmp_cell (p := 5) (q := 4) rfl _ _ _ _ _ _ _ rfl (K9.get 0 rfl) Tryz.underlying53 rfl res_info) rfl ⟨_, _, _, rfl, (l2.keep k9).leave, K9.hb⟩
    · subst hk
      have e9 := apply_flush (x := ⟨4, b, s⟩) hE rfl
      rw [e9.1, e9.2]
      clear e9 hE hz
      go_enter Tryz.func30, Tryz.ntmps30
      generalize hw0 : (w.alloc (.cells #[.int .i64 _, .int .i64 _, .string s] 51)).alloc (.cells #[.int .i64 0, .string ⟨#[]⟩] 53) = w0 at *
      go_wp2_with (first
        | ((with_reducible refine Plan.load_lit 51 (.tmp 3) (w.heap.size) ?_ (K.get 1 rfl) Tryz.underlying51 ?_ ?_ ?_); (· rfl); (· rfl); (· exact cmd_info); simp only [Act.put, List.setIfInBounds_toArray, List.set_cons_zero, List.set_cons_succ])
        | (go_at_call 58; ((with_reducible refine (HC.out _).mono ?_); rintro r9 w1 ⟨rfl, hb⟩; replace l0 := l0.keep (K.keep_on hb); replace K := K.on hb; clear hb hw0; obtain ⟨c0, c1, c2⟩ := cmd_cells (K.get 1 rfl)))
        | ((with_reducible refine Plan.store_lit 53 (.tmp 5) _ (w.heap.size + 1) #[.int .i64 0, .string ⟨#[]⟩] (K.get 0 rfl) ?_ ?_ ?_ ?_ ?_ ?_); rotate_left; (· rfl); (· exact res_info); (· rfl); (· simp [Value.oneCell']); rotate_left; (· rfl); simp only [Act.put]))
      have k9 := K.keep_put (F := F) 0 rfl (cs' := #[.int .i64 0, .string ⟨#[]⟩]) rfl
      have K9 := K.put 0 rfl (cs' := #[.int .i64 0, .string ⟨#[]⟩]) rfl
      simp only [List.set] at K9 k9
      exact bodyPost_ret (Plan.results_tmp_cell (p := 5) (q := 4) rfl _ _ _ _ _ _ _ rfl (K9.get 0 rfl) Tryz.underlying53 rfl res_info) rfl ⟨_, _, _, rfl, (l0.keep k9).leave, K9.hb⟩
  · have e9 := apply_bad hE
    rw [e9.1, e9.2]
    generalize errM B ⟨k, b, s⟩ = E at *
    have hE2 : (E != 0) = true := by simpa using hE
    clear e9 hE
    go_enter Tryz.func30, Tryz.ntmps30
    generalize hw0 : (w.alloc (.cells #[.int .i64 _, .int .i64 _, .string s] 51)).alloc (.cells #[.int .i64 0, .string ⟨#[]⟩] 53) = w0 at *
    go_wp2_with (first
      | ((with_reducible refine Plan.load_lit 51 (.tmp 3) (w.heap.size) ?_ (K.get 1 rfl) Tryz.underlying51 ?_ ?_ ?_); (· rfl); (· rfl); (· exact cmd_info); simp only [Act.put, List.setIfInBounds_toArray, List.set_cons_zero, List.set_cons_succ])
      | (go_at_call 58; ((with_reducible refine (HC.out _).mono ?_); rintro r9 w1 ⟨rfl, hb⟩; replace l0 := l0.keep (K.keep_on hb); replace K := K.on hb; clear hb hw0; obtain ⟨c0, c1, c2⟩ := cmd_cells (K.get 1 rfl)))
      | ((with_reducible refine Plan.store_lit 53 (.tmp 5) _ (w.heap.size + 1) #[.int .i64 E, .string ⟨#[]⟩] (K.get 0 rfl) ?_ ?_ ?_ ?_ ?_ ?_); rotate_left; (· rfl); (· exact res_info); (· rfl); (· simp [Value.oneCell']); rotate_left; (· rfl); simp only [Act.put]))
    have k9 := K.keep_put (F := F) 0 rfl (cs' := #[.int .i64 E, .string ⟨#[]⟩]) rfl
    have K9 := K.put 0 rfl (cs' := #[.int .i64 E, .string ⟨#[]⟩]) rfl
    simp only [List.set] at K9 k9
    exact bodyPost_ret (Plan.results_tmp_cell (p := 5) (q := 4) rfl _ _ _ _ _ _ _ rfl (K9.get 0 rfl) Tryz.underlying53 rfl res_info) rfl ⟨_, _, _, rfl, (l0.keep k9).leave, K9.hb⟩
end Go.Proofs.YtnmhnjjehglcfaaGreat.Ents

/- The walks of the document's Sizes, has and operation. -/
namespace Go.Proofs.YtnmhnjjehglcfaaGreat.Ents
open Go.RowKit Plan HisMath LinMath ModMath Rws Env LayMath
set_option maxHeartbeats 8000000 in
set_option maxRecDepth 20000 in
theorem refSizes_any (F G : Nat → Prop) (B : List ByteArray) (L : List Ev) (a b : Option Addr) (n c m d : Nat) (w : World) (hl : SList w F a n c B) (hk : VList w G b m d L) :
    Calls Tryz.prog 40 #[.slice a n c, .slice b m d] w fun r w' => r = .returned (.int .i64 (sizesE B L)) ∧ Below w.heap.size w w' := by
  have hlen := hl.length
  obtain ⟨hcp, hcm⟩ := hl.cap
  unfold maxLen at hcm
  have hb := Below.refl w.heap.size w
  have HC := Lib.hid (fun W (h : Below w.heap.size w W) => refHCheck_any _ L (n : Int) b m d W (hk.same h))
  have HAT := Lib.hid (fun W (h : Below w.heap.size w W) i (hi : i < n) => str_at (hl.same h) i hi)
  have HERR := Lib.hid (fun h => @sizes_err B L h)
  have HBAD := Lib.hid (fun i s h hs hz => @sizes_bad B L i s h hs hz)
  have HGOOD := Lib.hid (fun h hs => @sizes_good B L h hs)
  rw [hlen] at HERR HBAD HGOOD
  generalize sizesE B L = R at *
  generalize checkE (n : Int) L = E at *
  clear hl hk hlen
  go_enter Tryz.func40, Tryz.ntmps40
  go_upto_region 2 with (first
    | (go_at_call 74; ((with_reducible refine (HC.out _ hb).mono ?_); rintro r9 w9 ⟨rfl, h9⟩; replace hb := hb.trans (h9.mono hb.size); clear h9)))
  clear HC
  by_cases hE : E = 0
  · subst hE
    have HB := Lib.hid (fun i s hs hz => HBAD.out i s rfl hs hz)
    have HG := Lib.hid (fun hs => HGOOD.out rfl hs)
    clear HERR HBAD HGOOD
    go_wp2_with fail
    go_loopw [6] (fun x wr => ∃ j : Nat, x = .int .i64 (j : Int) ∧ j ≤ n ∧ RowKit.Hid (∀ i s, i < j → B[i]? = some s → s.size = 16) ∧ Below w.heap.size w wr) (fun x _ => n - (intOf x).toNat)
    case atStart => exact ⟨0, rfl, by omega, Lib.hid (fun i _ hi => absurd hi (Nat.not_lt_zero _)), hb⟩
    case round =>
      clear hb
      obtain ⟨j, rfl, hj, hall, hb⟩ := hrel
      by_cases hlt : j < n
      · obtain ⟨x, s, rfl, hs, hc⟩ := HAT.out wr hb j hlt
        have hjI : (j : Int) < (n : Int) := by omega
        by_cases hz : s.size = 16
        · have d1 : ((s.size : Int) == 16) = true := by simp [hz]
          have d2 : (s.size == 16) = true := by simp [hz]
          have d3 : ((s.size : Int) != 16) = false := by simp [hz]
          have d4 : (s.size != 16) = false := by simp [hz]
          have HN := Lib.hid (fun i t (hi : i < j + 1) (ht : B[i]? = some t) => (show t.size = 16 from by
            rcases Nat.lt_or_ge i j with h9 | h9
            · exact hall.out i t h9 ht
            · obtain rfl : i = j := by omega
              rw [hs] at ht; cases ht; exact hz))
          clear hz hs
          go_wp2_with fail
          go_roundw
          case rel => exact ⟨j + 1, by go_num, by omega, HN, hb⟩
          case measure => simp [intOf]; omega
        · have HX := Lib.hid (HB.out j s hs hz)
          have d3 : ((s.size : Int) != 16) = true := by simp; omega
          have d4 : (s.size != 16) = true := by simp [hz]
          clear hz hs
          go_wp2_with fail
          go_ret
          exact ⟨r_i HX.out.symm, hb⟩
      · obtain rfl : j = n := by omega
        have hjI : ¬ (j : Int) < (j : Int) := by omega
        have HX := Lib.hid (HG.out (fun i s hi hs => hall.out i s hi hs))
        go_wp2_with fail
        go_ret
        exact ⟨r_i HX.out.symm, hb⟩
  · have d1 : (E == 0) = false := by simpa using hE
    have d2 : (E != 0) = true := by simpa using hE
    have HX := Lib.hid (HERR.out hE)
    clear HERR HBAD HGOOD hE
    go_wp2_with fail
    go_ret
    exact ⟨r_i HX.out.symm, hb⟩
set_option maxHeartbeats 8000000 in
set_option maxRecDepth 20000 in
theorem refHas_any (F : Nat → Prop) (L : List Int) (s : Int) (a : Option Addr) (n c : Nat) (w : World) (hl : TList IR w F a n c L) :
    Calls Tryz.prog 42 #[.slice a n c, .int .i64 s] w fun r w' => r = .returned (.bool (decide (s ∈ L))) ∧ w = w' := by
  have hlen := hl.length
  obtain ⟨hcp, hcm⟩ := hl.cap
  unfold maxLen at hcm
  have HAT := Lib.hid (fun i (hi : i < n) => ir_at hl i hi)
  have HYES := Lib.hid (fun i (h : L[i]? = some s) => (show decide (s ∈ L) = true from decide_eq_true (List.mem_of_getElem? h)))
  have HNO := Lib.hid (fun (h : ∀ i y, i < n → L[i]? = some y → y ≠ s) => (show decide (s ∈ L) = false from decide_eq_false (fun hm => by
    obtain ⟨i, hi⟩ := List.mem_iff_getElem?.1 hm
    exact h i s (by have := (List.getElem?_eq_some_iff.1 hi).1; omega) hi rfl)))
  generalize decide (s ∈ L) = R at *
  clear hl hlen
  go_enter Tryz.func42, Tryz.ntmps42
  go_wp2_with fail
  go_loopw [5] (fun x wr => ∃ j : Nat, x = .int .i64 (j : Int) ∧ j ≤ n ∧ RowKit.Hid (∀ i y, i < j → L[i]? = some y → y ≠ s) ∧ w = wr) (fun x _ => n - (intOf x).toNat)
  case atStart => exact ⟨0, rfl, by omega, Lib.hid (fun i _ hi => absurd hi (Nat.not_lt_zero _)), rfl⟩
  case round =>
    obtain ⟨j, rfl, hj, hall, rfl⟩ := hrel
    by_cases hlt : j < n
    · obtain ⟨x, y, rfl, hy, hc⟩ := HAT.out j hlt
      have hjI : (j : Int) < (n : Int) := by omega
      by_cases hq : y = s
      · have d1 : (y == s) = true := by simpa using hq
        have HX := Lib.hid (HYES.out j (by rw [hy, hq]))
        clear hq hy
        go_wp2_with fail
        go_ret
        exact ⟨ret_b HX.out.symm, rfl⟩
      · have d1 : (y == s) = false := by simpa using hq
        have HN := Lib.hid (fun i t (hi : i < j + 1) (ht : L[i]? = some t) => (show t ≠ s from by
          rcases Nat.lt_or_ge i j with h9 | h9
          · exact hall.out i t h9 ht
          · obtain rfl : i = j := by omega
            rw [hy] at ht; cases ht; exact hq))
        clear hq hy
        go_wp2_with fail
        go_roundw
        case rel => exact ⟨j + 1, by go_num, by omega, HN, by first | rfl | trivial⟩
        case measure => simp [intOf]; omega
    · obtain rfl : j = n := by omega
      have hjI : ¬ (j : Int) < (j : Int) := by omega
      have HX := Lib.hid (HNO.out (fun i y hi hy => hall.out i y hi hy))
      go_wp2_with fail
      go_ret
      exact ⟨ret_b HX.out.symm, rfl⟩
def ev0 : Ev := ⟨false, 0, 0, 0, 0, ⟨#[]⟩, 0, ⟨#[]⟩⟩
set_option maxHeartbeats 8000000 in
set_option maxRecDepth 20000 in
theorem refOperation_any (F : Nat → Prop) (L : List Ev) (s : Int) (a : Option Addr) (n c : Nat) (w : World) (hl : VList w F a n c L) :
    Calls Tryz.prog 43 #[.slice a n c, .int .i64 s] w fun r w' => r = .returned (.tuple #[evV ((opNo L s).getD ev0), .bool (opNo L s).isSome]) ∧ Below w.heap.size w w' := by
  have hlen := hl.length
  obtain ⟨hcp, hcm⟩ := hl.cap
  unfold maxLen at hcm
  have HAT := Lib.hid (fun W (h : Below w.heap.size w W) i (hi : i < n) => ev_at (hl.same h) i hi)
  have HYES := Lib.hid (fun i x h1 h2 h3 => @op_found L s i x h1 h2 h3)
  have HNO := Lib.hid (fun (h : ∀ i x, i < n → L[i]? = some x → x.serial ≠ s) => @op_none L s (fun i x h1 h2 => h i x (by omega) h2))
  have K := (Env.start w).al (.cells #[.bool false, .int .i64 0, .int .i64 0, .int .i64 0, .int .i64 0, .string ⟨#[]⟩, .int .i64 0, .string ⟨#[]⟩] 55)
  generalize opNo L s = R at *
  clear hl hlen
  go_enter Tryz.func43, Tryz.ntmps43
  go_wp2_with fail
  go_loopw [6] (fun x wr => ∃ j : Nat, x = .int .i64 (j : Int) ∧ j ≤ n ∧ RowKit.Hid (∀ i x, i < j → L[i]? = some x → x.serial ≠ s) ∧ Env w wr [.box w.heap.size (.cells #[.bool false, .int .i64 0, .int .i64 0, .int .i64 0, .int .i64 0, .string ⟨#[]⟩, .int .i64 0, .string ⟨#[]⟩] 55)]) (fun x _ => n - (intOf x).toNat)
  case atStart => exact ⟨0, rfl, by omega, Lib.hid (fun i _ hi => absurd hi (Nat.not_lt_zero _)), K⟩
  case round =>
    clear K
    obtain ⟨j, rfl, hj, hall, K⟩ := hrel
    by_cases hlt : j < n
    · obtain ⟨x, y, rfl, hy, hat⟩ := HAT.out wr K.hb j hlt
      have hjI : (j : Int) < (n : Int) := by omega
      obtain ⟨er, eq, es, ek, eb, ed, ee, ex⟩ := y
      obtain ⟨z0, z1, z2, z3, z4, z5, z6, z7⟩ := hat
      try simp only at z0 z1 z2 z3 z4 z5 z6 z7
      by_cases hq : es = s
      · have d1 : (es == s) = true := by simpa using hq
        have HX := Lib.hid (HYES.out j _ hy hq (fun i z hi hz => hall.out i z hi hz))
        clear hq hy
        go_wp2_with (first
          | ((with_reducible refine Plan.store_lit 55 (.tmp 4) _ w.heap.size #[.bool er, .int .i64 eq, .int .i64 es, .int .i64 ek, .int .i64 eb, .string ed, .int .i64 ee, .string ex] (K.get 0 rfl) ?_ ?_ ?_ ?_ ?_ ?_); rotate_left; (· rfl); (· exact ev_info); (· rfl); (· simp [Value.oneCell']); rotate_left; (· rfl); simp only [Act.put]; have K9 := K.put 0 rfl (cs' := #[.bool er, .int .i64 eq, .int .i64 es, .int .i64 ek, .int .i64 eb, .string ed, .int .i64 ee, .string ex]) rfl; simp only [List.set] at K9))
        have HX2 := HX.out
        refine bodyPost_ret (Plan.results_cell_tmp (p := 4) (q := 5) rfl _ _ _ _ _ _ _ rfl (K9.get 0 rfl) Tryz.underlying55 rfl ev_info) rfl ⟨?_, K9.hb⟩
        rw [HX2]
        rfl
      · have d1 : (es == s) = false := by simpa using hq
        have HN := Lib.hid (fun i t (hi : i < j + 1) (ht : L[i]? = some t) => (show t.serial ≠ s from by
          rcases Nat.lt_or_ge i j with h9 | h9
          · exact hall.out i t h9 ht
          · obtain rfl : i = j := by omega
            rw [hy] at ht; cases ht; exact hq))
        clear hq hy
        go_wp2_with fail
        go_roundw
        case rel => exact ⟨j + 1, by go_num, by omega, HN, K⟩
        case measure => simp [intOf]; omega
    · obtain rfl : j = n := by omega
      have hjI : ¬ (j : Int) < (j : Int) := by omega
      have HX := Lib.hid (HNO.out (fun i y hi hy => hall.out i y hi hy))
      go_wp2_with (first
        | ((with_reducible refine Plan.store_lit 55 (.tmp 4) _ w.heap.size #[.bool false, .int .i64 0, .int .i64 0, .int .i64 0, .int .i64 0, .string ⟨#[]⟩, .int .i64 0, .string ⟨#[]⟩] (K.get 0 rfl) ?_ ?_ ?_ ?_ ?_ ?_); rotate_left; (· rfl); (· exact ev_info); (· rfl); (· simp [Value.oneCell']); rotate_left; (· rfl); simp only [Act.put]; have K9 := K.put 0 rfl (cs' := #[.bool false, .int .i64 0, .int .i64 0, .int .i64 0, .int .i64 0, .string ⟨#[]⟩, .int .i64 0, .string ⟨#[]⟩]) rfl; simp only [List.set] at K9))
      have HX2 := HX.out
      refine bodyPost_ret (Plan.results_cell_tmp (p := 4) (q := 5) rfl _ _ _ _ _ _ _ rfl (K9.get 0 rfl) Tryz.underlying55 rfl ev_info) rfl ⟨?_, K9.hb⟩
      rw [HX2]
      rfl
end Go.Proofs.YtnmhnjjehglcfaaGreat.Ents

/- Orders of several classes put together into one, where what is before something else stays ahead of it. Plain mathematics. -/
namespace Go.Proofs.YtnmhnjjehglcfaaGreat.LinMath
section
variable {α : Type}
/-- the least of some -/
theorem least_of (i : α → Int) : ∀ (l : List α), l ≠ [] → ∃ h ∈ l, ∀ x ∈ l, i h ≤ i x
  | [], h => absurd rfl h
  | [x], _ => ⟨x, by simp, by simp⟩
  | x :: y :: l, _ => by
    obtain ⟨h, hm, hl⟩ := least_of i (y :: l) (by simp)
    by_cases hx : i x ≤ i h
    · exact ⟨x, by simp, fun z hz => by
        rcases List.mem_cons.1 hz with rfl | hz
        · exact Int.le_refl _
        · exact Int.le_trans hx (hl z hz)⟩
    · exact ⟨h, List.mem_cons_of_mem _ hm, fun z hz => by
        rcases List.mem_cons.1 hz with rfl | hz
        · omega
        · exact hl z hz⟩
theorem merge_any (i : α → Int) (bf : α → α → Prop) (hT : ∀ z h h', bf z h → ¬ bf z h' → i h' < i h) (hirr : ∀ z, ¬ bf z z) (c : α → Nat) (k : Nat) :
    ∀ (n : Nat) (os : Nat → List α), ((List.range k).map fun b => (os b).length).sum = n → (∀ b, b < k → ∀ x ∈ os b, c x = b) → (∀ b, b < k → (os b).Pairwise (fun t s => ¬ bf s t)) →
      ∃ o : List α, (∀ b, b < k → o.filter (fun x => decide (c x = b)) = os b) ∧ (∀ x ∈ o, c x < k) ∧ o.Pairwise (fun t s => ¬ bf s t) := by
  intro n
  induction n with
  | zero =>
    intro os hsum hc hp
    refine ⟨[], fun b hb => ?_, by simp, .nil⟩
    have h0 : (os b).length = 0 := by
      have := List.sum_eq_zero_iff_forall_eq_nat.1 hsum (os b).length (List.mem_map.2 ⟨b, List.mem_range.2 hb, rfl⟩)
      exact this
    rw [List.length_eq_zero_iff.1 h0]
    rfl
  | succ n ih =>
    intro os hsum hc hp
    -- the heads
    have hne : ((List.range k).filterMap fun b => (os b).head?) ≠ [] := by
      intro h0
      have : ((List.range k).map fun b => (os b).length).sum = 0 := by
        rw [List.sum_eq_zero_iff_forall_eq_nat]
        intro m hm
        obtain ⟨b, hb, rfl⟩ := List.mem_map.1 hm
        rw [List.filterMap_eq_nil_iff] at h0
        have := h0 b hb
        rw [List.head?_eq_none_iff] at this
        rw [this]; rfl
      omega
    obtain ⟨h, hm, hmin⟩ := least_of i _ hne
    obtain ⟨b, hb, hbh⟩ := List.mem_filterMap.1 hm
    have hbk := List.mem_range.1 hb
    obtain ⟨tl, htl⟩ : ∃ tl, os b = h :: tl := by
      cases hq : os b with
      | nil => rw [hq] at hbh; cases hbh
      | cons x tl => rw [hq] at hbh; cases hbh; exact ⟨tl, rfl⟩
    let os' : Nat → List α := fun d => if d = b then tl else os d
    have hlen : ∀ d, (os d).length = (os' d).length + (if d = b then 1 else 0) := fun d => by
      by_cases hd : d = b
      · subst hd; simp [os', htl]
      · simp [os', hd]
    have hsum' : ((List.range k).map fun d => (os' d).length).sum = n := by
      have e1 : ∀ (l : List Nat), (l.map fun d => (os d).length).sum = (l.map fun d => (os' d).length).sum + l.count b := by
        intro l
        induction l with
        | nil => rfl
        | cons d l ih2 =>
          simp only [List.map_cons, List.sum_cons, ih2, hlen d, List.count_cons]
          by_cases hd : d = b <;> simp [hd] <;> omega
      have e2 : (List.range k).count b = 1 := by
        have hcr : ∀ m, (List.range m).count b = if b < m then 1 else 0 := by
          intro m
          induction m with
          | zero => simp
          | succ m ihm =>
            rw [List.range_succ, List.count_append, ihm, List.count_singleton]
            by_cases h1 : b < m
            · have h2 : ¬ m = b := by omega
              have h3 : b < m + 1 := by omega
              simp [h1, h2, h3]
            · by_cases h2 : m = b
              · subst h2; simp
              · have h3 : ¬ b < m + 1 := by omega
                simp [h1, h2, h3]
        rw [hcr k, if_pos hbk]
      have := e1 (List.range k)
      omega
    have hsub : ∀ d, ∀ x ∈ os' d, x ∈ os d := fun d x hx => by
      by_cases hd : d = b
      · subst hd; simp only [os', if_true] at hx; rw [htl]; exact List.mem_cons_of_mem _ hx
      · simp only [os', hd, if_false] at hx; exact hx
    obtain ⟨o, h1, h2, h3⟩ := ih os' hsum' (fun d hd x hx => hc d hd x (hsub d x hx)) (fun d hd => by
      by_cases hdb : d = b
      · subst hdb
        have := hp d hd
        rw [htl, List.pairwise_cons] at this
        simp only [os', if_true]; exact this.2
      · simp only [os', hdb, if_false]; exact hp d hd)
    have hch : c h = b := hc b hbk h (by rw [htl]; simp)
    refine ⟨h :: o, fun d hd => ?_, fun x hx => ?_, List.pairwise_cons.2 ⟨fun s hs => ?_, h3⟩⟩
    · rw [List.filter_cons, h1 d hd]
      by_cases hdb : d = b
      · subst hdb; simp [os', hch, htl]
      · have : ¬ c h = d := by rw [hch]; exact fun e => hdb e.symm
        simp [os', hdb, this]
    · rcases List.mem_cons.1 hx with rfl | hx
      · omega
      · exact h2 x hx
    · have hcs := h2 s hs
      have hsm : s ∈ os' (c s) := by
        rw [← h1 (c s) hcs]
        exact List.mem_filter.2 ⟨hs, by simp⟩
      by_cases hcb : c s = b
      · rw [hcb] at hsm
        simp only [os', if_true] at hsm
        have := hp b hbk
        rw [htl, List.pairwise_cons] at this
        exact this.1 s hsm
      · intro hbs
        have hso := hsub _ s hsm
        obtain ⟨h', tl', hq⟩ : ∃ h' tl', os (c s) = h' :: tl' := by
          cases hq : os (c s) with
          | nil => rw [hq] at hso; cases hso
          | cons x t => exact ⟨x, t, rfl⟩
        have hmem : h' ∈ (List.range k).filterMap fun b => (os b).head? := List.mem_filterMap.2 ⟨c s, List.mem_range.2 hcs, by rw [hq]; rfl⟩
        have hle := hmin h' hmem
        have hnb : ¬ bf s h' := by
          rw [hq] at hso
          rcases List.mem_cons.1 hso with rfl | hs2
          · exact hirr s
          · have := hp _ hcs
            rw [hq, List.pairwise_cons] at this
            exact this.1 s hs2
        have := hT s h h' hbs hnb
        omega
end
end Go.Proofs.YtnmhnjjehglcfaaGreat.LinMath

/- Linearizations as lists of operations; a history is linearizable exactly if its parts are, and then its beginnings are. Plain mathematics. -/
namespace Go.Proofs.YtnmhnjjehglcfaaGreat.LinMath
open HisMath ModMath
/-- the result of an operation is what the blocks say -/
def fitR (B : List ByteArray) (x : Ev) : Prop := x.ret = true → (applyR B (cmdOf x)).err = x.err ∧ (applyR B (cmdOf x)).data = x.res
instance (B : List ByteArray) (x : Ev) : Decidable (fitR B x) := by unfold fitR; infer_instance
def runW : List ByteArray → List Ev → Option (List ByteArray)
  | B, [] => some B
  | B, x :: xs => if fitR B x then runW (applyB B (cmdOf x)) xs else none
theorem runW_snoc (x : Ev) : ∀ (xs : List Ev) (B : List ByteArray), runW B (xs ++ [x]) = match runW B xs with
    | some B' => if fitR B' x then some (applyB B' (cmdOf x)) else none
    | none => none
  | [], B => by simp only [List.nil_append, runW]
  | y :: ys, B => by
    rw [List.cons_append, runW, runW]
    by_cases h : fitR B y
    · rw [if_pos h, if_pos h]; exact runW_snoc x ys _
    · rw [if_neg h, if_neg h]
structure LinX (B : List ByteArray) (L : List Ev) (xs : List Ev) : Prop where
  mem : ∀ x ∈ xs, x ∈ opsE L L.length
  nd : xs.Pairwise (fun x y => x.serial ≠ y.serial)
  skip : ∀ x ∈ xs, skipP x = false
  must : ∀ y ∈ opsE L L.length, mustP y = true → y ∈ xs
  ord : xs.Pairwise (fun t s => beforeB L s.serial t.serial = false)
  run : (runW B xs).isSome = true
theorem lin_of (B : List ByteArray) {L : List Ev} (H : Opn L (opsE L L.length)) : ∀ (xs : List Ev), (∀ x ∈ xs, x ∈ opsE L L.length) → xs.Pairwise (fun x y => x.serial ≠ y.serial) → (∀ x ∈ xs, skipP x = false) → xs.Pairwise (fun t s => beforeB L s.serial t.serial = false) →
    blkAt B L (xs.map (·.serial)) xs.length = runW B xs := by
  refine snoc_ind ?_ ?_
  · intro _ _ _ _; rfl
  · intro xs x ih hm hn hs ho
    rw [List.pairwise_append] at hn ho
    have h1 := ih (fun y hy => hm y (List.mem_append_left _ hy)) hn.1 (fun y hy => hs y (List.mem_append_left _ hy)) ho.1
    rw [runW_snoc, List.map_append, List.length_append, List.length_singleton, List.map_singleton]
    have h2 : blkAt B L (xs.map (·.serial) ++ [x.serial]) xs.length = runW B xs := by rw [blk_prefix (by simp)]; exact h1
    have hx := hm x (by simp)
    obtain ⟨i, hi⟩ := List.mem_iff_getElem?.1 hx
    cases hq : runW B xs with
    | none => rw [hq] at h2; exact blk_none h2 (Nat.le_succ _)
    | some B' =>
      rw [hq] at h2
      rw [blk_next h2 (by rw [List.getElem?_append_right (by simp), List.length_map, Nat.sub_self]; rfl), op_no H.one hi]
      have htk : (xs.map (·.serial) ++ [x.serial]).take xs.length = xs.map (·.serial) := by
        rw [List.take_append_of_le_length (by simp), List.take_of_length_le (by simp)]
      simp only [htk]
      by_cases hf : fitR B' x
      · have hst : stepB L B' (xs.map (·.serial)) x = true := by
          rw [step_iff]
          refine ⟨fun hmem => ?_, hs x (by simp), fun t ht => ?_, hf⟩
          · obtain ⟨y, hy, hys⟩ := List.mem_map.1 hmem
            exact hn.2.2 y hy x (by simp) hys
          · obtain ⟨y, hy, rfl⟩ := List.mem_map.1 ht
            exact ho.2.2 y hy x (by simp)
        rw [if_pos hst, if_pos hf]
      · have hst : stepB L B' (xs.map (·.serial)) x = false := by
          cases hb : stepB L B' (xs.map (·.serial)) x with
          | false => rfl
          | true => exact absurd (step_iff.1 hb).2.2.2 hf
        rw [hst, if_neg (by decide), if_neg hf]
theorem must_iff {L : List Ev} (H : Opn L (opsE L L.length)) {xs : List Ev} (hm : ∀ x ∈ xs, x ∈ opsE L L.length) : mustB (opsE L L.length) (xs.map (·.serial)) = true ↔ ∀ y ∈ opsE L L.length, mustP y = true → y ∈ xs := by
  unfold mustB
  rw [List.all_eq_true]
  constructor
  · intro h y hy hmu
    have := h y hy
    unfold mustP at hmu
    rw [hmu] at this
    simp only [Bool.not_true, Bool.false_or, decide_eq_true_eq] at this
    obtain ⟨x, hx, hxs⟩ := List.mem_map.1 this
    obtain ⟨i, hi⟩ := List.mem_iff_getElem?.1 (hm x hx)
    obtain ⟨j, hj⟩ := List.mem_iff_getElem?.1 hy
    have := H.one i j x y hi hj hxs
    subst this
    rw [hi] at hj
    rw [← Option.some.inj hj]
    exact hx
  · intro h y hy
    cases hq : (y.ret && decide (y.err = 0))
    · rfl
    · simp only [Bool.not_true, Bool.false_or, decide_eq_true_eq]
      exact List.mem_map.2 ⟨y, h y hy hq, rfl⟩
theorem lin_iff (B : List ByteArray) {L : List Ev} (H : Opn L (opsE L L.length)) (o : List Int) : linOk B L o = true ↔ ∃ xs, o = xs.map (·.serial) ∧ LinX B L xs := by
  constructor
  · intro h
    unfold linOk at h
    rw [Bool.and_eq_true] at h
    obtain ⟨hmu, hbk⟩ := h
    have main : ∀ i, i ≤ o.length → ∃ xs : List Ev, o.take i = xs.map (·.serial) ∧ (∀ x ∈ xs, x ∈ opsE L L.length) ∧ xs.Pairwise (fun x y => x.serial ≠ y.serial) ∧ (∀ x ∈ xs, skipP x = false) ∧ xs.Pairwise (fun t s => beforeB L s.serial t.serial = false) := by
      intro i
      induction i with
      | zero => intro _; exact ⟨[], rfl, by simp, .nil, by simp, .nil⟩
      | succ i ih =>
        intro hi
        obtain ⟨xs, h1, h2, h3, h4, h5⟩ := ih (by omega)
        have hs : o[i]? = some o[i] := List.getElem?_eq_getElem (by omega)
        have hall : ∀ j, j ≤ o.length → ∃ Bj, blkAt B L o j = some Bj := fun j hj => by
          cases hq : blkAt B L o j with
          | some Bj => exact ⟨Bj, rfl⟩
          | none => rw [blk_none hq hj] at hbk; cases hbk
        obtain ⟨Bi, hBi⟩ := hall i (by omega)
        obtain ⟨Bj, hBj⟩ := hall (i + 1) hi
        rw [blk_next hBi hs] at hBj
        cases hx : opNo (opsE L L.length) o[i] with
        | none => rw [hx] at hBj; cases hBj
        | some x =>
          rw [hx] at hBj
          simp only at hBj
          split at hBj
          · rename_i hst
            rw [step_iff, h1] at hst
            have hxs := op_serial hx
            refine ⟨xs ++ [x], ?_, fun y hy => ?_, ?_, fun y hy => ?_, ?_⟩
            · rw [List.take_succ_eq_append_getElem (by omega), h1, List.map_append, List.map_singleton, hxs]
            · rcases List.mem_append.1 hy with h6 | h6
              · exact h2 y h6
              · rw [List.mem_singleton.1 h6]; exact List.mem_of_find?_eq_some hx
            · rw [List.pairwise_append]
              refine ⟨h3, List.pairwise_singleton _ _, fun y hy z hz => ?_⟩
              rw [List.mem_singleton.1 hz]
              intro he
              exact hst.1 (List.mem_map.2 ⟨y, hy, he⟩)
            · rcases List.mem_append.1 hy with h6 | h6
              · exact h4 y h6
              · rw [List.mem_singleton.1 h6]; exact hst.2.1
            · rw [List.pairwise_append]
              refine ⟨h5, List.pairwise_singleton _ _, fun y hy z hz => ?_⟩
              rw [List.mem_singleton.1 hz]
              exact hst.2.2.1 _ (List.mem_map.2 ⟨y, hy, rfl⟩)
          · cases hBj
    obtain ⟨xs, h1, h2, h3, h4, h5⟩ := main o.length (Nat.le_refl _)
    rw [List.take_length] at h1
    subst h1
    rw [List.length_map, lin_of B H xs h2 h3 h4 h5] at hbk
    exact ⟨xs, rfl, h2, h3, h4, (must_iff H h2).1 hmu, h5, hbk⟩
  · rintro ⟨xs, rfl, h⟩
    unfold linOk
    rw [(must_iff H h.mem).2 h.must, List.length_map, lin_of B H xs h.mem h.nd h.skip h.ord, h.run]
    rfl
end Go.Proofs.YtnmhnjjehglcfaaGreat.LinMath
