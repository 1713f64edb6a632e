/- ModelCommutes: commands on different blocks can change places. No condition. -/
import Derived.Test.YtpkogdpgchibdaaPack13
import Derived.Test.YtpkogdpgchibdaaRows
import Derived.Deep.DeepCutAuto
import Derived.WalkKit
import Derived.ProofKit
import Derived.SliceStrings
import Derived.OpenShut
import Derived.ShutString
import Derived.ChangeOld
import Derived.Carry
import Derived.Below

/- A list that is written out. -/
namespace Go.Proofs.Ytpkogdpgchibdaa.Rws
open Ents
theorem lit_list {α : Type} {R : Row α} {w : World} {F : Nat → Prop} {g : Nat} {L : List α} {fr : Nat × Nat} (h : w.heap[g]? = some (.cells (R.all L).toArray R.et fr)) (hF : F g) (hn : L.length ≤ maxLen) : TList R w F (some ⟨g, 0, none⟩) L.length L.length L := by
  refine .inr ⟨_, rfl, Nat.le_refl _, hn, rfl, e_lt h, hF, fun j u hu => ?_⟩
  rw [Addr.add_lit, Nat.zero_add]
  exact (cell_of_row w g j _ _ _ h).trans (by rw [List.getElem?_toArray]; exact hu)
end Go.Proofs.Ytpkogdpgchibdaa.Rws
namespace Go.Proofs.Ytpkogdpgchibdaa.Ents
open Go.RowKit Plan Rws
theorem lit_off (x : Addr) (i : Nat) (hi : 0 < i) : x.add i = ⟨x.block, x.off + i, none⟩ := by
  obtain ⟨j, rfl⟩ : ∃ j, i = j + 1 := ⟨i - 1, by omega⟩
  have := ent_add_off x 0 j
  unfold Addr.add
  simp
end Go.Proofs.Ytpkogdpgchibdaa.Ents

/- The walk of the law's sanity check of blocks. -/
namespace Go.Proofs.Ytpkogdpgchibdaa.ModMath
open CmdMath
theorem aw_run (v : ByteArray) (hv : v.size = 16) : runB [zeroC, zeroC] [⟨2, 1, v⟩, ⟨1, 1, ⟨#[]⟩⟩, ⟨1, 2, ⟨#[]⟩⟩] = [zeroC, v] ∧ runR [zeroC, zeroC] [⟨2, 1, v⟩, ⟨1, 1, ⟨#[]⟩⟩, ⟨1, 2, ⟨#[]⟩⟩] = [⟨0, ⟨#[]⟩⟩, ⟨0, v⟩, ⟨1, ⟨#[]⟩⟩] := by
  have e0 : (⟨#[]⟩ : ByteArray).size = 0 := rfl
  have c1 : checkC 2 2 1 16 = 0 := by decide
  have c2 : checkC 2 1 1 0 = 0 := by decide
  have c3 : checkC 2 1 2 0 = 1 := by decide
  constructor
  · simp [runB, applyB, errM, hv, e0, c1, c2, c3]
  · simp [runR, applyR, applyB, errM, hv, e0, c1, c2, c3]
theorem aw_newB : newB 2 = [zeroC, zeroC] := by unfold newB; rw [if_neg (by omega)]; rfl
end Go.Proofs.Ytpkogdpgchibdaa.ModMath
namespace Go.Proofs.Ytpkogdpgchibdaa.Ents
open Go.RowKit Plan ModMath CmdMath Rws Env LayMath
set_option maxHeartbeats 8000000 in
set_option maxRecDepth 20000 in
theorem modAwake_any (H : ModelOk) (w : World) : Calls Try.prog 7 #[] w fun r w' => r = .returned (.bool true) ∧ Below w.heap.size w w' := by
  have H1 := Lib.hid (fun W => H.new 2 W)
  have H2 := Lib.hid (fun W => (show Calls Try.prog 20 #[.int .i64 3] W fun e w' => e = .returned (.string ⟨(valueL 3).toArray⟩) ∧ Below W.heap.size W w' from value_any 3 (by omega) W))
  obtain ⟨v, hv⟩ : ∃ v : ByteArray, v = ⟨(valueL 3).toArray⟩ := ⟨_, rfl⟩
  have hsz : v.size = 16 := by subst hv; simp [ByteArray.size, value_length]
  rw [← hv] at H2
  have H3 := Lib.hid (fun W F F2 a n c b m d (h : SList W F a n c [zeroC, zeroC]) (h2 : CList' W F2 b m d [⟨2, 1, v⟩, ⟨1, 1, ⟨#[]⟩⟩, ⟨1, 2, ⟨#[]⟩⟩]) (h3 : n ≤ 8796093022208 ∧ m ≤ 100000) => H.run F F2 _ _ a b n c m d W h h2 h3.1 h3.2)
  rw [aw_newB] at H1
  rw [(aw_run v hsz).1, (aw_run v hsz).2] at H3
  unfold SPost at H1
  unfold RPost at H3
  have K := Env.start w
  have hm5 : (3 : Nat) ≤ 100000 := by decide
  have hml : (3 : Nat) ≤ maxLen := by unfold maxLen; decide
  clear hv
  go_enter Try.func7, Try.ntmps7
  go_upto_region 4 with (first
    | (go_at_call 13; ((with_reducible refine (H1.out _).mono ?_); rintro r9 w1 ⟨a1, n1, c1, rfl, hx, hb⟩; have l1 := TList.result (F := fun _ => False) K hb (hx.mono (fun b _ h => .inr (h.resolve_left id))); clear hx; replace K := K.on hb; clear hb))
    | (go_at_call 20; ((with_reducible refine (H2.out _).mono ?_); rintro r9 w2 ⟨rfl, hb⟩; replace l1 := l1.keep (K.keep_on hb); replace K := K.on hb; clear hb; have KC := K.al (.cells #[.int .i64 2, .int .i64 1, .string v, .int .i64 1, .int .i64 1, .string ⟨#[]⟩, .int .i64 1, .int .i64 2, .string ⟨#[]⟩] 24); have kC := l1.keep (K.keep_al (.cells #[.int .i64 2, .int .i64 1, .string v, .int .i64 1, .int .i64 1, .string ⟨#[]⟩, .int .i64 1, .int .i64 2, .string ⟨#[]⟩] 24)); have lC : TList CR _ (fun _ => True) _ 3 3 [⟨2, 1, v⟩, ⟨1, 1, ⟨#[]⟩⟩, ⟨1, 2, ⟨#[]⟩⟩] := lit_list (R := CR) (F := fun _ => True) (L := [⟨2, 1, v⟩, ⟨1, 1, ⟨#[]⟩⟩, ⟨1, 2, ⟨#[]⟩⟩]) (KC.get 0 rfl) trivial hml; have hn1 : n1 ≤ 2 := (by have h9 : 2 = n1 := l1.length; omega)))
    | (go_at_call 10; ((with_reducible refine (H3.out _ _ _ _ _ _ _ _ _ kC lC ⟨by omega, hm5⟩).mono ?_); rintro r9 w3 ⟨a3, n3, c3, b3, m3, d3, rfl, hx, hy, hb⟩; have l3 := TList.result KC hb hx; have m9 := TList.result KC hb hy; clear hx hy; replace K := KC.on hb; clear hb KC kC lC l1)))
  have hn3 := l3.length
  have hm3 := m9.length
  obtain rfl : n3 = 2 := hn3.symm
  obtain rfl : m3 = 3 := hm3.symm
  obtain ⟨xa, s1, hxa, hs1, ha1⟩ := str_at l3 1 (by decide)
  obtain rfl : v = s1 := Option.some.inj hs1
  obtain ⟨ya, r1, hya, hr1, hb1⟩ := res_at m9 1 (by decide)
  obtain rfl : (⟨0, v⟩ : Res) = r1 := Option.some.inj hr1
  obtain ⟨yb, r2, hyb, hr2, hb2⟩ := res_at m9 2 (by decide)
  obtain rfl : (⟨1, ⟨#[]⟩⟩ : Res) = r2 := Option.some.inj hr2
  subst hxa hya
  obtain rfl := Option.some.inj hyb
  unfold ResAt at hb1 hb2
  simp only [lit_off _ 1 (by decide), lit_off _ 2 (by decide), lit_off _ 4 (by decide), Nat.one_mul, show 2 * 2 = 4 from rfl] at ha1 hb1 hb2
  clear hyb
  go_wp2_with fail
  go_ret
  exact ⟨rfl, K.hb⟩
end Go.Proofs.Ytpkogdpgchibdaa.Ents

/- The walk of the law's command that is made of numbers. -/
namespace Go.Proofs.Ytpkogdpgchibdaa.Ents
open Go.RowKit Plan ModMath CmdMath Rws Env LayMath
set_option maxHeartbeats 8000000 in
set_option maxRecDepth 20000 in
theorem modCmd_any (B g : Nat) (zs : List Int) (k : Nat) (n : Int) (w : World) (hd : Dice w B g zs k) (hl : zs.length ≤ 100000) (hn : 1 ≤ n ∧ n ≤ 1000) :
    Calls Try.prog 19 #[.pointer (some ⟨g, 0, none⟩), .int .i64 n] w fun r w' => ∃ (xk xb : Int) (xs : ByteArray) (k' : Nat), r = .returned (cmdV xk xb xs) ∧ checkC n xk xb xs.size = 0 ∧ Dice w' B g zs k' ∧ k' ≤ k + 3 ∧ Chg (btw B g) w w' := by
  have hBg : B ≤ g := hd.choose_spec.2.2.2
  have r1 := nxt_range zs k 4 (by omega)
  have r2 := nxt_range zs (stp zs k) n (by omega)
  have r3 := nxt_range zs (stp zs (stp zs k)) 50 (by omega)
  have N1 := Lib.hid (fun W h => next_chg W B g zs k 4 h hl (by omega) (by omega))
  have N2 := Lib.hid (fun W h => next_chg W B g zs (stp zs k) n h hl (by omega) (by omega))
  have N3 := Lib.hid (fun W h => next_chg W B g zs (stp zs (stp zs k)) 50 h hl (by omega) (by omega))
  have s1 := stp_le zs k
  have s2 := stp_le zs (stp zs k)
  have s3 := stp_le zs (stp zs (stp zs k))
  have KG := Env.given hd
  have K := KG.al (.cells #[.int .i64 0, .int .i64 0, .string ⟨#[]⟩] 24)
  have k0 := KG.keep_al (F := fun _ => True) (.cells #[.int .i64 0, .int .i64 0, .string ⟨#[]⟩] 24)
  clear KG
  generalize hA1 : nxt zs k 4 = a1 at *
  generalize hA2 : nxt zs (stp zs k) n = a2 at *
  generalize hK1 : stp zs k = q1 at *
  generalize hA3 : nxt zs (stp zs q1) 50 = a3 at *
  generalize hK2 : stp zs q1 = q2 at *
  generalize hK3 : stp zs q2 = q3 at *
  clear hA1 hA2 hA3 hK1 hK2 hK3
  obtain rfl | rfl | rfl | rfl : a1 = 0 ∨ a1 = 1 ∨ a1 = 2 ∨ a1 = 3 := by omega
  · skip
    go_enter Try.func19, Try.ntmps19
    go_wp2_with (first
      | (go_at_call 17; ((with_reducible refine (N1.out _ (K.die 1 rfl)).mono ?_); rintro r9 w1 ⟨rfl, hd9, hc9⟩; have k9 := (K.dice 1 rfl hd9 hc9).2 (fun _ => True); replace K := (K.dice 1 rfl hd9 hc9).1; simp only [List.set] at k9 K; replace k0 := k0.trans k9; clear k9 hd9 hc9))
      | (go_at_call 17; ((with_reducible refine (N2.out _ (K.die 1 rfl)).mono ?_); rintro r9 w2 ⟨rfl, hd9, hc9⟩; have k9 := (K.dice 1 rfl hd9 hc9).2 (fun _ => True); replace K := (K.dice 1 rfl hd9 hc9).1; simp only [List.set] at k9 K; replace k0 := k0.trans k9; clear k9 hd9 hc9; have k9 := K.keep_al (F := fun _ => True) (.cells #[.int .i64 1, .int .i64 a2, .string ⟨#[]⟩] 24); replace k0 := k0.trans k9; replace K := K.al (.cells #[.int .i64 1, .int .i64 a2, .string ⟨#[]⟩] 24); clear k9; obtain ⟨c0, c1, c2⟩ := cmd_cells (K.get 0 rfl); have f1 := K.free 0 rfl 1; have f2 := K.free 0 rfl 2))
      | ((with_reducible refine Plan.load_lit 24 (.tmp 5) (w2.heap.size) ?_ (K.get 0 rfl) Try.underlying24 ?_ ?_ ?_); (· rfl); (· rfl); (· exact cmd_info); simp only [Act.put, List.setIfInBounds_toArray, List.set_cons_zero, List.set_cons_succ])
      | ((with_reducible refine Plan.store_lit 24 (.tmp 4) _ w.heap.size #[.int .i64 1, .int .i64 a2, .string ⟨#[]⟩] (K.get 1 rfl) ?_ ?_ ?_ ?_ ?_ ?_); rotate_left; (· rfl); (· exact cmd_info); (· rfl); (· simp [Value.oneCell']); rotate_left; (· rfl); simp only [Act.put]; have k9 := K.keep_put (F := fun _ => True) 1 rfl (cs' := #[.int .i64 1, .int .i64 a2, .string ⟨#[]⟩]) rfl; have K9 := K.put 1 rfl (cs' := #[.int .i64 1, .int .i64 a2, .string ⟨#[]⟩]) rfl; simp only [List.set] at K9 k9))
    exact bodyPost_ret (results_cell_row rfl _ _ _ _ _ _ _ rfl (K9.get 1 rfl) Try.underlying24 rfl cmd_info) rfl ⟨_, _, _, q2, rfl, check_fine (by omega) (by omega) (by show ¬ ((1 : Int) = 2 ∧ 0 ≠ 16 ∨ (1 : Int) ≠ 2 ∧ 0 ≠ 0); omega), K9.die 2 rfl, by omega, Keep.chg hd K9 (k0.trans k9)⟩
  · obtain ⟨m, rfl⟩ : ∃ m : Nat, a3 = (m : Int) := ⟨a3.toNat, by omega⟩
    have HV := Lib.hid (fun W => value_any m (by omega) W)
    have hv : (⟨(valueL m).toArray⟩ : ByteArray).size = 16 := by simp [ByteArray.size, value_length]
    generalize (⟨(valueL m).toArray⟩ : ByteArray) = v at *
    go_enter Try.func19, Try.ntmps19
    go_wp2_with (first
      | (go_at_call 17; ((with_reducible refine (N1.out _ (K.die 1 rfl)).mono ?_); rintro r9 w1 ⟨rfl, hd9, hc9⟩; have k9 := (K.dice 1 rfl hd9 hc9).2 (fun _ => True); replace K := (K.dice 1 rfl hd9 hc9).1; simp only [List.set] at k9 K; replace k0 := k0.trans k9; clear k9 hd9 hc9))
      | (go_at_call 17; ((with_reducible refine (N2.out _ (K.die 1 rfl)).mono ?_); rintro r9 w2 ⟨rfl, hd9, hc9⟩; have k9 := (K.dice 1 rfl hd9 hc9).2 (fun _ => True); replace K := (K.dice 1 rfl hd9 hc9).1; simp only [List.set] at k9 K; replace k0 := k0.trans k9; clear k9 hd9 hc9; have k9 := K.keep_al (F := fun _ => True) (.cells #[.int .i64 2, .int .i64 a2, .string ⟨#[]⟩] 24); replace k0 := k0.trans k9; replace K := K.al (.cells #[.int .i64 2, .int .i64 a2, .string ⟨#[]⟩] 24); clear k9; obtain ⟨c0, c1, c2⟩ := cmd_cells (K.get 0 rfl); have f1 := K.free 0 rfl 1; have f2 := K.free 0 rfl 2))
      | (go_at_call 17; ((with_reducible refine (N3.out _ (K.die 2 rfl)).mono ?_); rintro r9 w3 ⟨rfl, hd9, hc9⟩; have k9 := (K.dice 2 rfl hd9 hc9).2 (fun _ => True); replace K := (K.dice 2 rfl hd9 hc9).1; simp only [List.set] at k9 K; replace k0 := k0.trans k9; clear k9 hd9 hc9; obtain ⟨c0, c1, c2⟩ := cmd_cells (K.get 0 rfl)))
      | (go_at_call 20; ((with_reducible refine (HV.out _).mono ?_); rintro r9 w4 ⟨rfl, hb⟩; replace k0 := k0.trans (K.keep_on hb); replace K := K.on hb; clear hb c0 c1 c2 f1 f2; obtain ⟨c0, c1, c2⟩ := cmd_cells (K.get 0 rfl); have f2 := K.free 0 rfl 2; have K5 : Env (low w B) (World.setCell _ ⟨w2.heap.size, 2, none⟩ (.string v)) _ := K.put1 0 rfl 2 (.string v) (cs' := #[.int .i64 2, .int .i64 a2, .string v]) rfl rfl; have k5 := K.keep_put1 (F := fun _ => True) 0 rfl 2 (.string v) (cs' := #[.int .i64 2, .int .i64 a2, .string v]) rfl rfl; simp only [List.set] at K5 k5))
      | ((with_reducible refine Plan.load_lit 24 (.tmp 5) (w2.heap.size) ?_ (K5.get 0 rfl) Try.underlying24 ?_ ?_ ?_); (· rfl); (· rfl); (· exact cmd_info); simp only [Act.put, List.setIfInBounds_toArray, List.set_cons_zero, List.set_cons_succ])
      | ((with_reducible refine Plan.store_lit 24 (.tmp 4) _ w.heap.size #[.int .i64 2, .int .i64 a2, .string v] (K5.get 1 rfl) ?_ ?_ ?_ ?_ ?_ ?_); rotate_left; (· rfl); (· exact cmd_info); (· rfl); (· simp [Value.oneCell']); rotate_left; (· rfl); simp only [Act.put]; have k9 := K5.keep_put (F := fun _ => True) 1 rfl (cs' := #[.int .i64 2, .int .i64 a2, .string v]) rfl; have K9 := K5.put 1 rfl (cs' := #[.int .i64 2, .int .i64 a2, .string v]) rfl; simp only [List.set] at K9 k9))
    exact bodyPost_ret (results_cell_row rfl _ _ _ _ _ _ _ rfl (K9.get 1 rfl) Try.underlying24 rfl cmd_info) rfl ⟨_, _, _, q3, rfl, check_fine (by omega) (by omega) (by omega), K9.die 2 rfl, by omega, Keep.chg hd K9 ((k0.trans k5).trans k9)⟩
  · skip
    go_enter Try.func19, Try.ntmps19
    go_wp2_with (first
      | (go_at_call 17; ((with_reducible refine (N1.out _ (K.die 1 rfl)).mono ?_); rintro r9 w1 ⟨rfl, hd9, hc9⟩; have k9 := (K.dice 1 rfl hd9 hc9).2 (fun _ => True); replace K := (K.dice 1 rfl hd9 hc9).1; simp only [List.set] at k9 K; replace k0 := k0.trans k9; clear k9 hd9 hc9))
      | (go_at_call 17; ((with_reducible refine (N2.out _ (K.die 1 rfl)).mono ?_); rintro r9 w2 ⟨rfl, hd9, hc9⟩; have k9 := (K.dice 1 rfl hd9 hc9).2 (fun _ => True); replace K := (K.dice 1 rfl hd9 hc9).1; simp only [List.set] at k9 K; replace k0 := k0.trans k9; clear k9 hd9 hc9; have k9 := K.keep_al (F := fun _ => True) (.cells #[.int .i64 3, .int .i64 a2, .string ⟨#[]⟩] 24); replace k0 := k0.trans k9; replace K := K.al (.cells #[.int .i64 3, .int .i64 a2, .string ⟨#[]⟩] 24); clear k9; obtain ⟨c0, c1, c2⟩ := cmd_cells (K.get 0 rfl); have f1 := K.free 0 rfl 1; have f2 := K.free 0 rfl 2))
      | ((with_reducible refine Plan.load_lit 24 (.tmp 5) (w2.heap.size) ?_ (K.get 0 rfl) Try.underlying24 ?_ ?_ ?_); (· rfl); (· rfl); (· exact cmd_info); simp only [Act.put, List.setIfInBounds_toArray, List.set_cons_zero, List.set_cons_succ])
      | ((with_reducible refine Plan.store_lit 24 (.tmp 4) _ w.heap.size #[.int .i64 3, .int .i64 a2, .string ⟨#[]⟩] (K.get 1 rfl) ?_ ?_ ?_ ?_ ?_ ?_); rotate_left; (· rfl); (· exact cmd_info); (· rfl); (· simp [Value.oneCell']); rotate_left; (· rfl); simp only [Act.put]; have k9 := K.keep_put (F := fun _ => True) 1 rfl (cs' := #[.int .i64 3, .int .i64 a2, .string ⟨#[]⟩]) rfl; have K9 := K.put 1 rfl (cs' := #[.int .i64 3, .int .i64 a2, .string ⟨#[]⟩]) rfl; simp only [List.set] at K9 k9))
    exact bodyPost_ret (results_cell_row rfl _ _ _ _ _ _ _ rfl (K9.get 1 rfl) Try.underlying24 rfl cmd_info) rfl ⟨_, _, _, q2, rfl, check_fine (by omega) (by omega) (by show ¬ ((3 : Int) = 2 ∧ 0 ≠ 16 ∨ (3 : Int) ≠ 2 ∧ 0 ≠ 0); omega), K9.die 2 rfl, by omega, Keep.chg hd K9 (k0.trans k9)⟩
  · skip
    go_enter Try.func19, Try.ntmps19
    go_wp2_with (first
      | (go_at_call 17; ((with_reducible refine (N1.out _ (K.die 1 rfl)).mono ?_); rintro r9 w1 ⟨rfl, hd9, hc9⟩; have k9 := (K.dice 1 rfl hd9 hc9).2 (fun _ => True); replace K := (K.dice 1 rfl hd9 hc9).1; simp only [List.set] at k9 K; replace k0 := k0.trans k9; clear k9 hd9 hc9))
      | (go_at_call 17; ((with_reducible refine (N2.out _ (K.die 1 rfl)).mono ?_); rintro r9 w2 ⟨rfl, hd9, hc9⟩; have k9 := (K.dice 1 rfl hd9 hc9).2 (fun _ => True); replace K := (K.dice 1 rfl hd9 hc9).1; simp only [List.set] at k9 K; replace k0 := k0.trans k9; clear k9 hd9 hc9; have K5 := K.al (.cells #[.int .i64 4, .int .i64 0, .string ⟨#[]⟩] 24); have k5 := k0.trans (K.keep_al (F := fun _ => True) (.cells #[.int .i64 4, .int .i64 0, .string ⟨#[]⟩] 24)); have k9 := K.keep_al (F := fun _ => True) (.cells #[.int .i64 4, .int .i64 a2, .string ⟨#[]⟩] 24); replace k0 := k0.trans k9; replace K := K.al (.cells #[.int .i64 4, .int .i64 a2, .string ⟨#[]⟩] 24); clear k9; obtain ⟨c0, c1, c2⟩ := cmd_cells (K.get 0 rfl); have f1 := K.free 0 rfl 1; have f2 := K.free 0 rfl 2))
      | ((with_reducible refine Plan.load_lit 24 (.tmp 5) (w2.heap.size) ?_ (K5.get 0 rfl) Try.underlying24 ?_ ?_ ?_); (· rfl); (· rfl); (· exact cmd_info); simp only [Act.put, List.setIfInBounds_toArray, List.set_cons_zero, List.set_cons_succ])
      | ((with_reducible refine Plan.store_lit 24 (.tmp 4) _ w.heap.size #[.int .i64 4, .int .i64 0, .string ⟨#[]⟩] (K5.get 1 rfl) ?_ ?_ ?_ ?_ ?_ ?_); rotate_left; (· rfl); (· exact cmd_info); (· rfl); (· simp [Value.oneCell']); rotate_left; (· rfl); simp only [Act.put]; have k9 := K5.keep_put (F := fun _ => True) 1 rfl (cs' := #[.int .i64 4, .int .i64 0, .string ⟨#[]⟩]) rfl; have K9 := K5.put 1 rfl (cs' := #[.int .i64 4, .int .i64 0, .string ⟨#[]⟩]) rfl; simp only [List.set] at K9 k9))
    exact bodyPost_ret (results_cell_row rfl _ _ _ _ _ _ _ rfl (K9.get 1 rfl) Try.underlying24 rfl cmd_info) rfl ⟨_, _, _, q2, rfl, check_fine (by omega) (by omega) (by show ¬ ((4 : Int) = 2 ∧ 0 ≠ 16 ∨ (4 : Int) ≠ 2 ∧ 0 ≠ 0); omega), K9.die 2 rfl, by omega, Keep.chg hd K9 (k5.trans k9)⟩
end Go.Proofs.Ytpkogdpgchibdaa.Ents

/- Commands on different blocks can change places. Plain mathematics. -/
namespace Go.Proofs.Ytpkogdpgchibdaa.ModMath
open CmdMath
/-- what a right command does to the blocks, and answers -/
theorem apply_good {B : List ByteArray} {x : Cmd} (h : checkC B.length x.kind x.block x.data.size = 0) :
    applyB B x = (if x.kind = 2 then B.set x.block.toNat x.data else if x.kind = 3 then B.set x.block.toNat zeroC else B) ∧
    applyR B x = (if x.kind = 1 then ⟨0, B.getD x.block.toNat ⟨#[]⟩⟩ else ⟨0, ⟨#[]⟩⟩) := by
  have hE : errM B x = 0 := h
  constructor
  · simp [applyB, hE]
  · simp [applyR, hE]
theorem apart_ne {x y : Cmd} {n : Int} (hx : checkC n x.kind x.block x.data.size = 0) (hy : checkC n y.kind y.block y.data.size = 0) (h : ¬ (x.block = y.block ∧ x.kind ≠ 4 ∧ y.kind ≠ 4)) (h1 : x.kind ≠ 4) (h2 : y.kind ≠ 4) : x.block.toNat ≠ y.block.toNat := by
  have a := (check_zero hx).2.2 h1
  have b := (check_zero hy).2.2 h2
  intro e
  exact h ⟨by omega, h1, h2⟩
theorem commute_R {B : List ByteArray} {x y : Cmd} (hx : checkC B.length x.kind x.block x.data.size = 0) (hy : checkC B.length y.kind y.block y.data.size = 0) (h : ¬ (x.block = y.block ∧ x.kind ≠ 4 ∧ y.kind ≠ 4)) : applyR (applyB B x) y = applyR B y := by
  have hy2 : checkC (applyB B x).length y.kind y.block y.data.size = 0 := by rw [apply_len]; exact hy
  rw [(apply_good hy2).2, (apply_good hy).2]
  by_cases h1 : y.kind = 1
  · rw [if_pos h1, if_pos h1]
    have hg : (applyB B x).getD y.block.toNat ⟨#[]⟩ = B.getD y.block.toNat ⟨#[]⟩ := by
      rw [(apply_good hx).1]
      by_cases h4 : x.kind = 4
      · simp [h4]
      · have hne := apart_ne hx hy h h4 (by omega)
        split
        · simp [List.getD_eq_getElem?_getD, List.getElem?_set_ne hne]
        · split
          · simp [List.getD_eq_getElem?_getD, List.getElem?_set_ne hne]
          · rfl
    rw [hg]
  · rw [if_neg h1, if_neg h1]
theorem commute_B {B : List ByteArray} {x y : Cmd} (hx : checkC B.length x.kind x.block x.data.size = 0) (hy : checkC B.length y.kind y.block y.data.size = 0) (h : ¬ (x.block = y.block ∧ x.kind ≠ 4 ∧ y.kind ≠ 4)) : applyB (applyB B x) y = applyB (applyB B y) x := by
  have hy2 : checkC (applyB B x).length y.kind y.block y.data.size = 0 := by rw [apply_len]; exact hy
  have hx2 : checkC (applyB B y).length x.kind x.block x.data.size = 0 := by rw [apply_len]; exact hx
  rw [(apply_good hy2).1, (apply_good hx2).1, (apply_good hx).1, (apply_good hy).1]
  by_cases h4 : x.kind = 4
  · simp [h4]
  · by_cases h5 : y.kind = 4
    · simp [h5]
    · have hne := apart_ne hx hy h h4 h5
      by_cases a2 : x.kind = 2 <;> by_cases a3 : x.kind = 3 <;> by_cases b2 : y.kind = 2 <;> by_cases b3 : y.kind = 3 <;> simp only [a2, a3, b2, b3, if_true, if_false] <;> first | rfl | exact List.set_comm _ _ hne | (exfalso; omega)
theorem run_two {B : List ByteArray} {x y : Cmd} : runB B [x, y] = applyB (applyB B x) y ∧ runR B [x, y] = [applyR B x, applyR (applyB B x) y] := ⟨rfl, rfl⟩
end Go.Proofs.Ytpkogdpgchibdaa.ModMath

/- The walk of ModelCommutes. -/
namespace Go.Proofs.Ytpkogdpgchibdaa.Ents
open Go.RowKit Plan ModMath CmdMath Rws Env LayMath
theorem list_addr {α : Type} {R : Row α} {w : World} {F : Nat → Prop} {a : Option Addr} {n c : Nat} {L : List α} (h : TList R w F a n c L) (hn : 0 < n) : ∃ x, a = some x := by
  obtain ⟨x, hx, _⟩ := h.some' hn
  exact ⟨x, hx⟩
theorem two_res {w : World} {F : Nat → Prop} {x : Addr} {c : Nat} {e1 e2 : Int} {s1 s2 : ByteArray} (h : OList w F (some x) 2 c [⟨e1, s1⟩, ⟨e2, s2⟩]) :
    w.cell? x = some (.int .i64 e1) ∧ w.cell? ⟨x.block, x.off + 1, none⟩ = some (.string s1) ∧ w.cell? ⟨x.block, x.off + 2, none⟩ = some (.int .i64 e2) ∧ w.cell? ⟨x.block, x.off + 2 + 1, none⟩ = some (.string s2) := by
  obtain ⟨y, r, hy, hr, h0⟩ := res_at h 0 (by decide)
  obtain rfl := Option.some.inj hy
  obtain rfl : (⟨e1, s1⟩ : Res) = r := Option.some.inj hr
  obtain ⟨y, r, hy, hr, h1⟩ := res_at h 1 (by decide)
  obtain rfl := Option.some.inj hy
  obtain rfl : (⟨e2, s2⟩ : Res) = r := Option.some.inj hr
  unfold ResAt at h0 h1
  rw [Nat.zero_mul, Addr.add_zero'] at h0
  rw [Nat.one_mul, lit_off _ 2 (by decide)] at h1
  exact ⟨h0.1, h0.2, h1.1, h1.2⟩
set_option maxHeartbeats 8000000 in
set_option maxRecDepth 20000 in
theorem modCommutes_any (H : ModelOk) (a : Option Addr) (n c : Nat) (Z : List Int) (w : World) (hz : IsRow .i64 w a n c Z) :
    Calls Try.prog 5 #[.slice a n c] w fun r w' => r = .returned (.bool true) ∧ Below w.heap.size w w' := by
  have HW := Lib.hid (fun W => modAwake_any H W)
  have HL := Lib.hid (fun W => light_any a n c W)
  have K := Env.start w
  by_cases hm : n ≤ 300
  · have t1 : (n : Int) ≤ 300 := by omega
    have t2 : decide ((n : Int) ≤ 300) = true := decide_eq_true t1
    rw [t2] at HL
    have HR := Lib.hid (roll_any a n c Z w hz hm)
    unfold RollPost at HR
    have hzl : (Z.take n).length ≤ 100000 := by rw [List.length_take]; omega
    generalize Z.take n = zs at *
    have H5 := Lib.hid (fun W => H.new 5 W)
    have hn5 : newB 5 = [zeroC, zeroC, zeroC, zeroC, zeroC] := by unfold newB; rw [if_neg (by omega)]; rfl
    rw [hn5] at H5
    unfold SPost at H5
    generalize hB0 : [zeroC, zeroC, zeroC, zeroC, zeroC] = B0 at *
    have hB5 : B0.length = 5 := by rw [← hB0]; rfl
    clear hB0 hn5 hz
    go_enter Try.func5, Try.ntmps5
    go_wp2_with (first
      | (go_at_call 15; ((with_reducible refine (HL.out _).mono ?_); rintro r9 w9 ⟨rfl, rfl⟩))
      | (go_at_call 16; ((with_reducible refine (HR.out).mono ?_); rintro r9 w1 ⟨g, rfl, hd, hb⟩; replace K := (K.roll hd hb).1; have hWs : w.heap.size ≤ w1.heap.size := hb.size; clear hd hb))
      | (go_at_call 13; ((with_reducible refine (H5.out _).mono ?_); rintro r9 w2 ⟨a1, n1, c1, rfl, hx, hb⟩; have l0 := TList.result (F := fun _ => False) K hb (hx.mono (fun b _ h => .inr (h.resolve_left id))); clear hx; replace K := K.on hb; clear hb)))
    have HC := Lib.hid (fun W k (h : Dice W w.heap.size g zs k) => modCmd_any w.heap.size g zs k 5 W h hzl (by omega))
    have HA := Lib.hid (fun W F B a n c xk xb xs (h : SList W F a n c B) (h2 : n ≤ 5) => H.apply F B a n c xk xb xs W h (by omega))
    unfold APost at HA
    have hn1 := l0.length
    go_loopw [4, 5] (fun y x wr => ∃ (j k : Nat) (B : List ByteArray) (a : Option Addr) (n c : Nat), x = .int .i64 (j : Int) ∧ j ≤ 10 ∧ y = .slice a n c ∧ B.length = 5 ∧ Env w wr [dieT w.heap.size g zs k] ∧ SList wr (Quiet w (fun _ => False) wr [dieT w.heap.size g zs k]) a n c B) (fun _ x _ => 10 - (intOf x).toNat)
    case atStart => exact ⟨0, 0, B0, a1, n1, c1, rfl, by omega, rfl, hB5, K, l0⟩
    case round =>
      clear K l0 hn1 hB5 B0 H5
      obtain ⟨j, k, B, a1, n1, c1, rfl, hj, rfl, hB5, K, l0⟩ := hrel
      have hn1 := l0.length
      have hn5 : n1 ≤ 5 := by omega
      by_cases hlt : j < 10
      · have hjI : (j : Int) < 10 := by omega
        go_wp2_with (first
          | (go_at_call 19; ((with_reducible refine (HC.out _ _ (K.die 0 rfl)).mono ?_); rintro r9 w3 ⟨xk, xb, xs, k3, rfl, hx, hd9, hk3, hc9⟩; replace l0 := l0.keep ((K.dice 0 rfl hd9 hc9).2 (fun _ => False)); replace K := (K.dice 0 rfl hd9 hc9).1; simp only [List.set] at K l0; clear hd9 hc9))
          | (go_at_call 8; ((with_reducible refine (HA.out _ _ _ _ _ _ _ _ _ l0 hn5).mono ?_); rintro r9 w4 ⟨a2, n2, c2, rfl, hx9, hb⟩; have l2 := TList.result K hb hx9; clear hx9 l0; replace K := K.on hb; clear hb)))
        have hq := l2.length
        go_roundw
        case rel => exact ⟨j + 1, _, _, a2, n2, c2, by go_num, by omega, rfl, by rw [apply_len]; exact hB5, K, l2⟩
        case measure => simp [intOf]; omega
      · obtain rfl : j = 10 := by omega
        have hjI : ¬ ((10 : Nat) : Int) < 10 := by omega
        have HC1 := HC
        have HC2 := HC
        clear HC HA
        clear hn1
        go_upto_region 10 with (first
          | (go_at_call 19; ((with_reducible refine (HC1.out _ _ (K.die 0 rfl)).mono ?_); rintro r9 w5 ⟨xk, xb, xs, k5, rfl, hx, hd9, hk5, hc9⟩; replace l0 := l0.keep ((K.dice 0 rfl hd9 hc9).2 (fun _ => False)); replace K := (K.dice 0 rfl hd9 hc9).1; simp only [List.set] at K l0; clear hd9 hc9; clear HC1))
          | (go_at_call 19; ((with_reducible refine (HC2.out _ _ (K.die 0 rfl)).mono ?_); rintro r9 w6 ⟨yk, yb, ys, k6, rfl, hy, hd9, hk6, hc9⟩; replace l0 := l0.keep ((K.dice 0 rfl hd9 hc9).2 (fun _ => False)); replace K := (K.dice 0 rfl hd9 hc9).1; simp only [List.set] at K l0; clear hd9 hc9; clear HC2; replace l0 := l0.keep (K.keep_al (F := fun _ => False) (.cells #[.int .i64 xk, .int .i64 xb, .string xs] 24)); replace K := K.al (.cells #[.int .i64 xk, .int .i64 xb, .string xs] 24); replace l0 := l0.keep (K.keep_al (F := fun _ => False) (.cells #[.int .i64 yk, .int .i64 yb, .string ys] 24)); replace K := K.al (.cells #[.int .i64 yk, .int .i64 yb, .string ys] 24))))
        simp only [World.size_alloc] at K l0
        generalize hw6 : (w6.alloc (.cells #[.int .i64 xk, .int .i64 xb, .string xs] 24)).alloc (.cells #[.int .i64 yk, .int .i64 yb, .string ys] 24) = w7 at *
        clear hw6
        generalize w6.heap.size = G at *
        obtain ⟨c0, c1', c2'⟩ := cmd_cells (K.get 1 rfl)
        obtain ⟨d0, d1', d2'⟩ := cmd_cells (K.get 0 rfl)
        go_cut [48] (fun s wx => s = .bool ((xb == yb) && (xk != 4) && (yk != 4)) ∧ wx = w7)
        case first =>
          cases e1 : (xb == yb)
          · go_wp2_with fail
            go_meet
            exact ⟨by rw [e1]; rfl, rfl⟩
          · cases e2 : (xk != 4)
            · go_wp2_with fail
              go_meet
              exact ⟨by rw [e1, e2]; rfl, rfl⟩
            · cases e3 : (yk != 4)
              · go_wp2_with fail
                go_meet
                exact ⟨by rw [e1, e2, e3]; rfl, rfl⟩
              · go_wp2_with fail
                go_meet
                exact ⟨by rw [e1, e2, e3]; rfl, rfl⟩
        case rest =>
          obtain ⟨rfl, rfl⟩ := hcut
          cases hT : ((xb == yb) && (xk != 4) && (yk != 4))
          · skip
            have hne : ¬ (xb = yb ∧ xk ≠ 4 ∧ yk ≠ 4) := fun ⟨h1, h2, h3⟩ => by simp [h1, h2, h3] at hT
            have hne2 : ¬ (yb = xb ∧ yk ≠ 4 ∧ xk ≠ 4) := fun ⟨h1, h2, h3⟩ => hne ⟨h1.symm, h3, h2⟩
            have hx5 : checkC B.length xk xb xs.size = 0 := by rw [hB5]; exact hx
            have hy5 : checkC B.length yk yb ys.size = 0 := by rw [hB5]; exact hy
            have cB := commute_B (x := ⟨xk, xb, xs⟩) (y := ⟨yk, yb, ys⟩) hx5 hy5 hne
            have cA1 := commute_R (x := ⟨xk, xb, xs⟩) (y := ⟨yk, yb, ys⟩) hx5 hy5 hne
            have cA2 := commute_R (x := ⟨yk, yb, ys⟩) (y := ⟨xk, xb, xs⟩) hy5 hx5 hne2
            have H3 := Lib.hid (fun W F F2 a c b d (h : SList W F a n1 c B) (h2 : TList CR W F2 b 2 d [⟨xk, xb, xs⟩, ⟨yk, yb, ys⟩]) => H.run F F2 B [⟨xk, xb, xs⟩, ⟨yk, yb, ys⟩] a b n1 c 2 d W h h2 (by omega) (by omega))
            have H4 := Lib.hid (fun W F F2 a c b d (h : SList W F a n1 c B) (h2 : TList CR W F2 b 2 d [⟨yk, yb, ys⟩, ⟨xk, xb, xs⟩]) => H.run F F2 B [⟨yk, yb, ys⟩, ⟨xk, xb, xs⟩] a b n1 c 2 d W h h2 (by omega) (by omega))
            rw [run_two.1, run_two.2, cA1] at H3
            rw [run_two.1, run_two.2, cA2, ← cB] at H4
            unfold RPost at H3 H4
            clear cB cA1 cA2 hne hne2 hx5 hy5 hB5
            generalize applyB (applyB B ⟨xk, xb, xs⟩) ⟨yk, yb, ys⟩ = BB at *
            generalize applyR B ⟨xk, xb, xs⟩ = Z1 at *
            generalize applyR B ⟨yk, yb, ys⟩ = Z2 at *
            obtain ⟨e1, s1⟩ := Z1
            obtain ⟨e2, s2⟩ := Z2
            have HS := Lib.hid (fun W F G a b n c m k (h1 : SList W F a n c BB) (h2 : SList W G b m k BB) => refBSame_any F G BB a b n c m k W h1 h2)
            have hml : (2 : Nat) ≤ maxLen := by unfold maxLen; decide
            have KC := K.al (.cells #[.int .i64 xk, .int .i64 xb, .string xs, .int .i64 yk, .int .i64 yb, .string ys] 24)
            have kC := l0.keep (K.keep_al (F := fun _ => False) (.cells #[.int .i64 xk, .int .i64 xb, .string xs, .int .i64 yk, .int .i64 yb, .string ys] 24))
            have lC : TList CR _ (fun _ => True) _ 2 2 [⟨xk, xb, xs⟩, ⟨yk, yb, ys⟩] := lit_list (R := CR) (F := fun _ => True) (L := [⟨xk, xb, xs⟩, ⟨yk, yb, ys⟩]) (KC.get 0 rfl) trivial hml
            go_upto_region 14 with (first
              | ((with_reducible refine Plan.load_lit 24 (.tmp 6) (G) ?_ (K.get 1 rfl) Try.underlying24 ?_ ?_ ?_); (· rfl); (· rfl); (· exact cmd_info); simp only [Act.put, List.setIfInBounds_toArray, List.set_cons_zero, List.set_cons_succ])
              | ((with_reducible refine Plan.load_lit 24 (.tmp 7) (G + 1) ?_ (K.get 0 rfl) Try.underlying24 ?_ ?_ ?_); (· rfl); (· rfl); (· exact cmd_info); simp only [Act.put, List.setIfInBounds_toArray, List.set_cons_zero, List.set_cons_succ])
              | (go_at_call 10; ((with_reducible refine (H3.out _ _ _ _ _ _ _ kC lC).mono ?_); rintro r9 v3 ⟨a3, n3, c3, b3, m3, d3, rfl, hp, hq, hb⟩; have p3 := TList.result KC hb hp; have q3 := TList.result KC hb hq; replace l0 := kC.keep (KC.keep_on hb); replace K := KC.on hb; clear hb hp hq kC lC KC; have KC := K.al (.cells #[.int .i64 yk, .int .i64 yb, .string ys, .int .i64 xk, .int .i64 xb, .string xs] 24); have kC := l0.keep (K.keep_al (F := fun _ => False) (.cells #[.int .i64 yk, .int .i64 yb, .string ys, .int .i64 xk, .int .i64 xb, .string xs] 24)); replace p3 := p3.keep (K.keep_al (F := fun _ => False) (.cells #[.int .i64 yk, .int .i64 yb, .string ys, .int .i64 xk, .int .i64 xb, .string xs] 24)); replace q3 := q3.keep (K.keep_al (F := fun _ => False) (.cells #[.int .i64 yk, .int .i64 yb, .string ys, .int .i64 xk, .int .i64 xb, .string xs] 24)); have lC : TList CR _ (fun _ => True) _ 2 2 [⟨yk, yb, ys⟩, ⟨xk, xb, xs⟩] := lit_list (R := CR) (F := fun _ => True) (L := [⟨yk, yb, ys⟩, ⟨xk, xb, xs⟩]) (KC.get 0 rfl) trivial hml))
              | ((with_reducible refine Plan.load_lit 24 (.tmp 6) (G) ?_ (K.get 2 rfl) Try.underlying24 ?_ ?_ ?_); (· rfl); (· rfl); (· exact cmd_info); simp only [Act.put, List.setIfInBounds_toArray, List.set_cons_zero, List.set_cons_succ])
              | ((with_reducible refine Plan.load_lit 24 (.tmp 7) (G + 1) ?_ (K.get 1 rfl) Try.underlying24 ?_ ?_ ?_); (· rfl); (· rfl); (· exact cmd_info); simp only [Act.put, List.setIfInBounds_toArray, List.set_cons_zero, List.set_cons_succ])
              | (go_at_call 10; ((with_reducible refine (H4.out _ _ _ _ _ _ _ kC lC).mono ?_); rintro r9 v4 ⟨a4, n4, c4, b4, m4, d4, rfl, hp, hq, hb⟩; have p4 := TList.result KC hb hp; have q4 := TList.result KC hb hq; replace p3 := p3.keep (KC.keep_on hb); replace q3 := q3.keep (KC.keep_on hb); replace l0 := kC.keep (KC.keep_on hb); replace K := KC.on hb; clear hb hp hq kC lC KC)))
            have hq3 := q3.length
            have hq4 := q4.length
            obtain rfl : m3 = 2 := hq3.symm
            obtain rfl : m4 = 2 := hq4.symm





            obtain ⟨ya, rfl⟩ := list_addr q3 (by decide)
            obtain ⟨za, rfl⟩ := list_addr q4 (by decide)
            refine Plan.start (fun W => (W.cell? ya = some (.int .i64 e1) ∧ W.cell? ⟨ya.block, ya.off + 1, none⟩ = some (.string s1) ∧ W.cell? ⟨ya.block, ya.off + 2, none⟩ = some (.int .i64 e2) ∧ W.cell? ⟨ya.block, ya.off + 2 + 1, none⟩ = some (.string s2)) ∧ (W.cell? za = some (.int .i64 e2) ∧ W.cell? ⟨za.block, za.off + 1, none⟩ = some (.string s2) ∧ W.cell? ⟨za.block, za.off + 2, none⟩ = some (.int .i64 e1) ∧ W.cell? ⟨za.block, za.off + 2 + 1, none⟩ = some (.string s1))) [(0, true), (1, true), (2, true), (3, true), (4, true), (5, true), (6, true), (7, true), (8, true), (9, true), (10, true), (11, true), (12, true), (13, true), (14, true), (15, true), (16, true), (17, true), (18, true), (19, true), (20, true), (21, true), (22, true), (23, true), (24, true), (25, true), (26, true), (27, true), (28, true), (29, false), (30, true), (31, true), (32, false), (33, true), (34, true)] (by kernel_rfl) (by kernel_rfl) (by kernel_rfl) (by kernel_rfl) ⟨two_res (q3.keep K.keep_drew), two_res (q4.keep K.keep_drew)⟩ ?_
            simp only [List.map_cons, List.map_nil, List.getElem?_toArray, List.getElem?_cons_zero, List.getElem?_cons_succ]
            replace p3 := p3.keep K.keep_drew
            replace p4 := p4.keep K.keep_drew
            replace q3 := q3.keep K.keep_drew
            replace q4 := q4.keep K.keep_drew
            replace K := K.drew
            generalize World.drew _ = w8 at *
            repeat (first | (refine Plan.take ?_ (by rfl) ?_ ?_; rotate_left; (· rintro w9 ⟨⟨u0, u1, u2, u3⟩, ⟨v0, v1, v2, v3⟩⟩; go_simp; (try rw [if_neg (by omega)]); all_goals (with_reducible rfl)); simp only [Act.put, List.setIfInBounds_toArray, List.set_cons_zero, List.set_cons_succ]) | (refine Plan.pass (by rfl) ?_; simp only [Act.put, List.setIfInBounds_toArray, List.set_cons_zero, List.set_cons_succ]))
            refine Plan.call (by rfl) 12 _ ?_ (HS.out _ _ _ _ _ _ _ _ _ p3 p4) ?_
            · go_simp
            rintro r9 w9 ⟨rfl, hb⟩
            replace q3 := q3.keep (K.keep_on hb)
            replace q4 := q4.keep (K.keep_on hb)
            replace K := K.on hb
            clear hb p3 p4
            refine ⟨_, rfl, ⟨two_res q3, two_res q4⟩, ?_⟩
            simp only [Act.put, List.setIfInBounds_toArray, List.set_cons_zero, List.set_cons_succ]
            repeat (first | (refine Plan.take ?_ (by rfl) ?_ ?_; rotate_left; (· rintro w9 ⟨⟨u0, u1, u2, u3⟩, ⟨v0, v1, v2, v3⟩⟩; go_simp; (try rw [if_neg (by omega)]); all_goals (with_reducible rfl)); simp only [Act.put, List.setIfInBounds_toArray, List.set_cons_zero, List.set_cons_succ]) | (refine Plan.pass (by rfl) ?_; simp only [Act.put, List.setIfInBounds_toArray, List.set_cons_zero, List.set_cons_succ]))
            refine Plan.call (by rfl) 7 _ ?_ (HW.out _) ?_
            · go_simp
            rintro r9 w9 ⟨rfl, hb⟩
            replace q3 := q3.keep (K.keep_on hb)
            replace q4 := q4.keep (K.keep_on hb)
            replace K := K.on hb
            clear hb
            refine ⟨_, rfl, ⟨two_res q3, two_res q4⟩, ?_⟩
            simp only [Act.put, List.setIfInBounds_toArray, List.set_cons_zero, List.set_cons_succ]
            repeat (first | (refine Plan.take ?_ (by rfl) ?_ ?_; rotate_left; (· rintro w9 ⟨⟨u0, u1, u2, u3⟩, ⟨v0, v1, v2, v3⟩⟩; go_simp; (try rw [if_neg (by omega)]); all_goals (with_reducible rfl)); simp only [Act.put, List.setIfInBounds_toArray, List.set_cons_zero, List.set_cons_succ]) | (refine Plan.pass (by rfl) ?_; simp only [Act.put, List.setIfInBounds_toArray, List.set_cons_zero, List.set_cons_succ]))
            refine Plan.ends ?_
            go_wp2_with fail
            go_ret
            exact ⟨rfl, K.hb⟩
          · go_wp2_with (first
              | (go_at_call 7; ((with_reducible refine (HW.out _).mono ?_); rintro r9 w9 ⟨rfl, hb⟩; replace K := K.on hb; clear hb)))
            go_ret
            exact ⟨rfl, K.hb⟩
  · have t1 : ¬ (n : Int) ≤ 300 := by omega
    have t2 : decide ((n : Int) ≤ 300) = false := decide_eq_false t1
    rw [t2] at HL
    clear hz
    go_enter Try.func5, Try.ntmps5
    go_wp2_with (first
      | (go_at_call 15; ((with_reducible refine (HL.out _).mono ?_); rintro r9 w9 ⟨rfl, rfl⟩))
      | (go_at_call 7; ((with_reducible refine (HW.out _).mono ?_); rintro r9 w9 ⟨rfl, hb⟩; replace K := K.on hb; clear hb)))
    go_ret
    exact ⟨rfl, K.hb⟩
end Go.Proofs.Ytpkogdpgchibdaa.Ents

/- ModelCommutes: commands on different blocks can change places. No condition. -/
namespace Go.Proofs.Ytpkogdpgchibdaa.modelCommutes
open Go.ChangeShapes Go.WideShapes Go.ChangeAt Go.RowKit
open Go.ChangeMaps (open_string shut_string)
set_option linter.unusedVariables false

theorem own : ownKnob Try.prog.godebug = none := by kernel_rfl
theorem laidOut : laidOutB Try.prog = true := by kernel_rfl

theorem walk (a0 : Option Addr) (l0 c0 : Nat) (z0 : List Int) (w : World) (w0 : IsRow .i64 w a0 l0 c0 z0) :
    Calls Try.prog 5 #[.slice a0 l0 c0] w fun e w' => e = .returned (.bool true) ∧ Below w.heap.size w w' := by
  exact Ents.modCommutes_any Ents.modelOk a0 l0 c0 z0 w w0

set_option maxRecDepth 100000 in
theorem lifted (os : Os) (started : os.Started) (H : Type) (enc : TypeId × Value → H) :
    ReturnsInHanded {} Try.checked os 5 .any (Rows.modelCommutesSpec.pre6 enc Try.prog Try.f5 Rows.modelCommutesRow.domain false) (Rows.modelCommutesSpec.post enc Try.prog Try.f5 false true false false) := by
  refine returnsInHanded_of_change (C := Try.checked) own started (by kernel_rfl) Try.func5
    (ChangeSpec.witness6 (enc := enc) (C := Try.checked) false ⟨#[], #[.slice none 0 0], []⟩ 8 (by kernel_rfl) (by kernel_rfl) (by kernel_rfl) (by kernel_rfl)) ?_
  intro W base args ds gs before hval0 hW hcnd _
  have hval : ∀ (j : Nat) t v, Try.f5.params[j]? = some t → args[j]? = some v → Value.okWide Try.prog W .any base t v := hval0
  have hW' := hW
  obtain ⟨p, q, hA0, hV, rfl, hfz, hnd⟩ := hW
  have hA : DataW.TrodAll enc Try.prog W 0 (fun _ => true) true Try.f5.params.toList args.toList ds p := hA0
  rw [Try.params5] at hA hval
  obtain ⟨v0, vs0, d0, ds0, p0, q0, hargs, rfl, rfl, h0, r0⟩ := trodAll_cons hA
  obtain ⟨rfl, rfl, rfl⟩ := trodAll_nil r0
  obtain rfl : args = #[v0] := by cases args; simp_all
  obtain ⟨rfl, rfl⟩ := trodVars_none hV
  have k0' := h0
  have lt0 : ∀ x ∈ p0, x.block < W.heap.size := by obtain ⟨m, hm⟩ := h0; exact DataW.trod_lt m _ _ _ hm
  obtain ⟨a0, l0, c0, rfl⟩ := okWide_slice Try.underlying39 (hval 0 39 v0 rfl rfl)
  obtain ⟨z0, w0⟩ : ∃ zs, IsRow .i64 W a0 l0 c0 zs := by
    obtain ⟨fuel, hf⟩ := h0
    rcases open_ints Try.underlying39 Try.underlying3 (by kernel_rfl) hf with ⟨hcs, _⟩ | ⟨x, l, c, zs, hcs, _, hl, hm, hz, _, hcell, hwz⟩
    · simp [Value.cells] at hcs
      obtain ⟨rfl, rfl, rfl⟩ := hcs
      exact ⟨[], .inl ⟨rfl, rfl, rfl, rfl⟩⟩
    · simp [Value.cells] at hcs
      obtain ⟨rfl, rfl, rfl⟩ := hcs
      exact ⟨zs, .inr ⟨_, rfl, hl, hm, by simpa using hz, hcell, hwz⟩⟩
  clear hA0 hval0
  refine (walk a0 l0 c0 z0 W w0).mono fun e W' ⟨he, bel⟩ => ?_
  subst he
  exact ⟨_, rfl, _, _, _, [], _, [], hW', trodAll_mk1 (shut_bool Try.underlying4 _), (trodAll_cons_mk (Below.trod laidOut (by kernel_rfl) (of_decide_eq_true (by kernel_rfl)) k0' bel lt0) trodAll_mk0), rfl, bel.frame _, fun h => by cases h⟩

theorem over : Rows.modelCommutesRow.holds Try.pinned (OpenSpec.ofChange Rows.modelCommutesSpec) :=
  OpenClaim.holds_of_wide 5 Try.f5 rfl rfl rfl rfl rfl rfl rfl ⟨rfl, rfl, rfl, rfl, rfl⟩ rfl rfl rfl rfl rfl (by kernel_rfl) Try.func5 (by kernel_rfl)
    (of_decide_eq_true (by kernel_rfl)) (by unfold Func.isWrapper; first | (rw [if_pos (by decide +kernel)]; kernel_rfl) | (rw [if_neg (by decide +kernel)]; exact ⟨rfl, rfl⟩))
    (fun os started H enc _ => lifted os started H enc)
end Go.Proofs.Ytpkogdpgchibdaa.modelCommutes

namespace Go.Proofs.Ytpkogdpgchibdaa
theorem modelCommutes_holds : Rows.ModelCommutesSaid := modelCommutes.over
end Go.Proofs.Ytpkogdpgchibdaa
