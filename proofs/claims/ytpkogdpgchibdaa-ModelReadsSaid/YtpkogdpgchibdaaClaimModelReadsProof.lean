/- ModelReads: a read returns what was written last, or zeros behind a trim, whatever happened to other blocks. No condition. -/
import Derived.Test.YtpkogdpgchibdaaPack13
import Derived.Test.YtpkogdpgchibdaaRows
import Derived.Deep.DeepCutAuto
import Derived.WalkKit
import Derived.ProofKit
import Derived.SliceStrings
import Derived.OpenShut
import Derived.ShutString
import Derived.ChangeOld
import Derived.Carry
import Derived.Below

/- A list that is written out. -/
namespace Go.Proofs.Ytpkogdpgchibdaa.Rws
open Ents
theorem lit_list {α : Type} {R : Row α} {w : World} {F : Nat → Prop} {g : Nat} {L : List α} {fr : Nat × Nat} (h : w.heap[g]? = some (.cells (R.all L).toArray R.et fr)) (hF : F g) (hn : L.length ≤ maxLen) : TList R w F (some ⟨g, 0, none⟩) L.length L.length L := by
  refine .inr ⟨_, rfl, Nat.le_refl _, hn, rfl, e_lt h, hF, fun j u hu => ?_⟩
  rw [Addr.add_lit, Nat.zero_add]
  exact (cell_of_row w g j _ _ _ h).trans (by rw [List.getElem?_toArray]; exact hu)
end Go.Proofs.Ytpkogdpgchibdaa.Rws
namespace Go.Proofs.Ytpkogdpgchibdaa.Ents
open Go.RowKit Plan Rws
theorem lit_off (x : Addr) (i : Nat) (hi : 0 < i) : x.add i = ⟨x.block, x.off + i, none⟩ := by
  obtain ⟨j, rfl⟩ : ∃ j, i = j + 1 := ⟨i - 1, by omega⟩
  have := ent_add_off x 0 j
  unfold Addr.add
  simp
end Go.Proofs.Ytpkogdpgchibdaa.Ents

/- The walk of the law's sanity check of blocks. -/
namespace Go.Proofs.Ytpkogdpgchibdaa.ModMath
open CmdMath
theorem aw_run (v : ByteArray) (hv : v.size = 16) : runB [zeroC, zeroC] [⟨2, 1, v⟩, ⟨1, 1, ⟨#[]⟩⟩, ⟨1, 2, ⟨#[]⟩⟩] = [zeroC, v] ∧ runR [zeroC, zeroC] [⟨2, 1, v⟩, ⟨1, 1, ⟨#[]⟩⟩, ⟨1, 2, ⟨#[]⟩⟩] = [⟨0, ⟨#[]⟩⟩, ⟨0, v⟩, ⟨1, ⟨#[]⟩⟩] := by
  have e0 : (⟨#[]⟩ : ByteArray).size = 0 := rfl
  have c1 : checkC 2 2 1 16 = 0 := by decide
  have c2 : checkC 2 1 1 0 = 0 := by decide
  have c3 : checkC 2 1 2 0 = 1 := by decide
  constructor
  · simp [runB, applyB, errM, hv, e0, c1, c2, c3]
  · simp [runR, applyR, applyB, errM, hv, e0, c1, c2, c3]
theorem aw_newB : newB 2 = [zeroC, zeroC] := by unfold newB; rw [if_neg (by omega)]; rfl
end Go.Proofs.Ytpkogdpgchibdaa.ModMath
namespace Go.Proofs.Ytpkogdpgchibdaa.Ents
open Go.RowKit Plan ModMath CmdMath Rws Env LayMath
set_option maxHeartbeats 8000000 in
set_option maxRecDepth 20000 in
theorem modAwake_any (H : ModelOk) (w : World) : Calls Try.prog 7 #[] w fun r w' => r = .returned (.bool true) ∧ Below w.heap.size w w' := by
  have H1 := Lib.hid (fun W => H.new 2 W)
  have H2 := Lib.hid (fun W => (show Calls Try.prog 20 #[.int .i64 3] W fun e w' => e = .returned (.string ⟨(valueL 3).toArray⟩) ∧ Below W.heap.size W w' from value_any 3 (by omega) W))
  obtain ⟨v, hv⟩ : ∃ v : ByteArray, v = ⟨(valueL 3).toArray⟩ := ⟨_, rfl⟩
  have hsz : v.size = 16 := by subst hv; simp [ByteArray.size, value_length]
  rw [← hv] at H2
  have H3 := Lib.hid (fun W F F2 a n c b m d (h : SList W F a n c [zeroC, zeroC]) (h2 : CList' W F2 b m d [⟨2, 1, v⟩, ⟨1, 1, ⟨#[]⟩⟩, ⟨1, 2, ⟨#[]⟩⟩]) (h3 : n ≤ 8796093022208 ∧ m ≤ 100000) => H.run F F2 _ _ a b n c m d W h h2 h3.1 h3.2)
  rw [aw_newB] at H1
  rw [(aw_run v hsz).1, (aw_run v hsz).2] at H3
  unfold SPost at H1
  unfold RPost at H3
  have K := Env.start w
  have hm5 : (3 : Nat) ≤ 100000 := by decide
  have hml : (3 : Nat) ≤ maxLen := by unfold maxLen; decide
  clear hv
  go_enter Try.func7, Try.ntmps7
  go_upto_region 4 with (first
    | (go_at_call 13; ((with_reducible refine (H1.out _).mono ?_); rintro r9 w1 ⟨a1, n1, c1, rfl, hx, hb⟩; have l1 := TList.result (F := fun _ => False) K hb (hx.mono (fun b _ h => .inr (h.resolve_left id))); clear hx; replace K := K.on hb; clear hb))
    | (go_at_call 20; ((with_reducible refine (H2.out _).mono ?_); rintro r9 w2 ⟨rfl, hb⟩; replace l1 := l1.keep (K.keep_on hb); replace K := K.on hb; clear hb; have KC := K.al (.cells #[.int .i64 2, .int .i64 1, .string v, .int .i64 1, .int .i64 1, .string ⟨#[]⟩, .int .i64 1, .int .i64 2, .string ⟨#[]⟩] 24); have kC := l1.keep (K.keep_al (.cells #[.int .i64 2, .int .i64 1, .string v, .int .i64 1, .int .i64 1, .string ⟨#[]⟩, .int .i64 1, .int .i64 2, .string ⟨#[]⟩] 24)); have lC : TList CR _ (fun _ => True) _ 3 3 [⟨2, 1, v⟩, ⟨1, 1, ⟨#[]⟩⟩, ⟨1, 2, ⟨#[]⟩⟩] := lit_list (R := CR) (F := fun _ => True) (L := [⟨2, 1, v⟩, ⟨1, 1, ⟨#[]⟩⟩, ⟨1, 2, ⟨#[]⟩⟩]) (KC.get 0 rfl) trivial hml; have hn1 : n1 ≤ 2 := (by have h9 : 2 = n1 := l1.length; omega)))
    | (go_at_call 10; ((with_reducible refine (H3.out _ _ _ _ _ _ _ _ _ kC lC ⟨by omega, hm5⟩).mono ?_); rintro r9 w3 ⟨a3, n3, c3, b3, m3, d3, rfl, hx, hy, hb⟩; have l3 := TList.result KC hb hx; have m9 := TList.result KC hb hy; clear hx hy; replace K := KC.on hb; clear hb KC kC lC l1)))
  have hn3 := l3.length
  have hm3 := m9.length
  obtain rfl : n3 = 2 := hn3.symm
  obtain rfl : m3 = 3 := hm3.symm
  obtain ⟨xa, s1, hxa, hs1, ha1⟩ := str_at l3 1 (by decide)
  obtain rfl : v = s1 := Option.some.inj hs1
  obtain ⟨ya, r1, hya, hr1, hb1⟩ := res_at m9 1 (by decide)
  obtain rfl : (⟨0, v⟩ : Res) = r1 := Option.some.inj hr1
  obtain ⟨yb, r2, hyb, hr2, hb2⟩ := res_at m9 2 (by decide)
  obtain rfl : (⟨1, ⟨#[]⟩⟩ : Res) = r2 := Option.some.inj hr2
  subst hxa hya
  obtain rfl := Option.some.inj hyb
  unfold ResAt at hb1 hb2
  simp only [lit_off _ 1 (by decide), lit_off _ 2 (by decide), lit_off _ 4 (by decide), Nat.one_mul, show 2 * 2 = 4 from rfl] at ha1 hb1 hb2
  clear hyb
  go_wp2_with fail
  go_ret
  exact ⟨rfl, K.hb⟩
end Go.Proofs.Ytpkogdpgchibdaa.Ents

/- The walk of the law's command that is made of numbers. -/
namespace Go.Proofs.Ytpkogdpgchibdaa.Ents
open Go.RowKit Plan ModMath CmdMath Rws Env LayMath
set_option maxHeartbeats 8000000 in
set_option maxRecDepth 20000 in
theorem modCmd_any (B g : Nat) (zs : List Int) (k : Nat) (n : Int) (w : World) (hd : Dice w B g zs k) (hl : zs.length ≤ 100000) (hn : 1 ≤ n ∧ n ≤ 1000) :
    Calls Try.prog 19 #[.pointer (some ⟨g, 0, none⟩), .int .i64 n] w fun r w' => ∃ (xk xb : Int) (xs : ByteArray) (k' : Nat), r = .returned (cmdV xk xb xs) ∧ checkC n xk xb xs.size = 0 ∧ Dice w' B g zs k' ∧ k' ≤ k + 3 ∧ Chg (btw B g) w w' := by
  have hBg : B ≤ g := hd.choose_spec.2.2.2
  have r1 := nxt_range zs k 4 (by omega)
  have r2 := nxt_range zs (stp zs k) n (by omega)
  have r3 := nxt_range zs (stp zs (stp zs k)) 50 (by omega)
  have N1 := Lib.hid (fun W h => next_chg W B g zs k 4 h hl (by omega) (by omega))
  have N2 := Lib.hid (fun W h => next_chg W B g zs (stp zs k) n h hl (by omega) (by omega))
  have N3 := Lib.hid (fun W h => next_chg W B g zs (stp zs (stp zs k)) 50 h hl (by omega) (by omega))
  have s1 := stp_le zs k
  have s2 := stp_le zs (stp zs k)
  have s3 := stp_le zs (stp zs (stp zs k))
  have KG := Env.given hd
  have K := KG.al (.cells #[.int .i64 0, .int .i64 0, .string ⟨#[]⟩] 24)
  have k0 := KG.keep_al (F := fun _ => True) (.cells #[.int .i64 0, .int .i64 0, .string ⟨#[]⟩] 24)
  clear KG
  generalize hA1 : nxt zs k 4 = a1 at *
  generalize hA2 : nxt zs (stp zs k) n = a2 at *
  generalize hK1 : stp zs k = q1 at *
  generalize hA3 : nxt zs (stp zs q1) 50 = a3 at *
  generalize hK2 : stp zs q1 = q2 at *
  generalize hK3 : stp zs q2 = q3 at *
  clear hA1 hA2 hA3 hK1 hK2 hK3
  obtain rfl | rfl | rfl | rfl : a1 = 0 ∨ a1 = 1 ∨ a1 = 2 ∨ a1 = 3 := by omega
  · skip
    go_enter Try.func19, Try.ntmps19
    go_wp2_with (first
      | (go_at_call 17; ((with_reducible refine (N1.out _ (K.die 1 rfl)).mono ?_); rintro r9 w1 ⟨rfl, hd9, hc9⟩; have k9 := (K.dice 1 rfl hd9 hc9).2 (fun _ => True); replace K := (K.dice 1 rfl hd9 hc9).1; simp only [List.set] at k9 K; replace k0 := k0.trans k9; clear k9 hd9 hc9))
      | (go_at_call 17; ((with_reducible refine (N2.out _ (K.die 1 rfl)).mono ?_); rintro r9 w2 ⟨rfl, hd9, hc9⟩; have k9 := (K.dice 1 rfl hd9 hc9).2 (fun _ => True); replace K := (K.dice 1 rfl hd9 hc9).1; simp only [List.set] at k9 K; replace k0 := k0.trans k9; clear k9 hd9 hc9; have k9 := K.keep_al (F := fun _ => True) (.cells #[.int .i64 1, .int .i64 a2, .string ⟨#[]⟩] 24); replace k0 := k0.trans k9; replace K := K.al (.cells #[.int .i64 1, .int .i64 a2, .string ⟨#[]⟩] 24); clear k9; obtain ⟨c0, c1, c2⟩ := cmd_cells (K.get 0 rfl); have f1 := K.free 0 rfl 1; have f2 := K.free 0 rfl 2))
      | ((with_reducible refine Plan.load_lit 24 (.tmp 5) (w2.heap.size) ?_ (K.get 0 rfl) Try.underlying24 ?_ ?_ ?_); (· rfl); (· rfl); (· exact cmd_info); simp only [Act.put, List.setIfInBounds_toArray, List.set_cons_zero, List.set_cons_succ])
      | ((with_reducible refine Plan.store_lit 24 (.tmp 4) _ w.heap.size #[.int .i64 1, .int .i64 a2, .string ⟨#[]⟩] (K.get 1 rfl) ?_ ?_ ?_ ?_ ?_ ?_); rotate_left; (· rfl); (· exact cmd_info); (· rfl); (· simp [Value.oneCell']); rotate_left; (· rfl); simp only [Act.put]; have k9 := K.keep_put (F := fun _ => True) 1 rfl (cs' := #[.int .i64 1, .int .i64 a2, .string ⟨#[]⟩]) rfl; have K9 := K.put 1 rfl (cs' := #[.int .i64 1, .int .i64 a2, .string ⟨#[]⟩]) rfl; simp only [List.set] at K9 k9))
    exact bodyPost_ret (results_cell_row rfl _ _ _ _ _ _ _ rfl (K9.get 1 rfl) Try.underlying24 rfl cmd_info) rfl ⟨_, _, _, q2, rfl, check_fine (by omega) (by omega) (by show ¬ ((1 : Int) = 2 ∧ 0 ≠ 16 ∨ (1 : Int) ≠ 2 ∧ 0 ≠ 0); omega), K9.die 2 rfl, by omega, Keep.chg hd K9 (k0.trans k9)⟩
  · obtain ⟨m, rfl⟩ : ∃ m : Nat, a3 = (m : Int) := ⟨a3.toNat, by omega⟩
    have HV := Lib.hid (fun W => value_any m (by omega) W)
    have hv : (⟨(valueL m).toArray⟩ : ByteArray).size = 16 := by simp [ByteArray.size, value_length]
    generalize (⟨(valueL m).toArray⟩ : ByteArray) = v at *
    go_enter Try.func19, Try.ntmps19
    go_wp2_with (first
      | (go_at_call 17; ((with_reducible refine (N1.out _ (K.die 1 rfl)).mono ?_); rintro r9 w1 ⟨rfl, hd9, hc9⟩; have k9 := (K.dice 1 rfl hd9 hc9).2 (fun _ => True); replace K := (K.dice 1 rfl hd9 hc9).1; simp only [List.set] at k9 K; replace k0 := k0.trans k9; clear k9 hd9 hc9))
      | (go_at_call 17; ((with_reducible refine (N2.out _ (K.die 1 rfl)).mono ?_); rintro r9 w2 ⟨rfl, hd9, hc9⟩; have k9 := (K.dice 1 rfl hd9 hc9).2 (fun _ => True); replace K := (K.dice 1 rfl hd9 hc9).1; simp only [List.set] at k9 K; replace k0 := k0.trans k9; clear k9 hd9 hc9; have k9 := K.keep_al (F := fun _ => True) (.cells #[.int .i64 2, .int .i64 a2, .string ⟨#[]⟩] 24); replace k0 := k0.trans k9; replace K := K.al (.cells #[.int .i64 2, .int .i64 a2, .string ⟨#[]⟩] 24); clear k9; obtain ⟨c0, c1, c2⟩ := cmd_cells (K.get 0 rfl); have f1 := K.free 0 rfl 1; have f2 := K.free 0 rfl 2))
      | (go_at_call 17; ((with_reducible refine (N3.out _ (K.die 2 rfl)).mono ?_); rintro r9 w3 ⟨rfl, hd9, hc9⟩; have k9 := (K.dice 2 rfl hd9 hc9).2 (fun _ => True); replace K := (K.dice 2 rfl hd9 hc9).1; simp only [List.set] at k9 K; replace k0 := k0.trans k9; clear k9 hd9 hc9; obtain ⟨c0, c1, c2⟩ := cmd_cells (K.get 0 rfl)))
      | (go_at_call 20; ((with_reducible refine (HV.out _).mono ?_); rintro r9 w4 ⟨rfl, hb⟩; replace k0 := k0.trans (K.keep_on hb); replace K := K.on hb; clear hb c0 c1 c2 f1 f2; obtain ⟨c0, c1, c2⟩ := cmd_cells (K.get 0 rfl); have f2 := K.free 0 rfl 2; have K5 : Env (low w B) (World.setCell _ ⟨w2.heap.size, 2, none⟩ (.string v)) _ := K.put1 0 rfl 2 (.string v) (cs' := #[.int .i64 2, .int .i64 a2, .string v]) rfl rfl; have k5 := K.keep_put1 (F := fun _ => True) 0 rfl 2 (.string v) (cs' := #[.int .i64 2, .int .i64 a2, .string v]) rfl rfl; simp only [List.set] at K5 k5))
      | ((with_reducible refine Plan.load_lit 24 (.tmp 5) (w2.heap.size) ?_ (K5.get 0 rfl) Try.underlying24 ?_ ?_ ?_); (· rfl); (· rfl); (· exact cmd_info); simp only [Act.put, List.setIfInBounds_toArray, List.set_cons_zero, List.set_cons_succ])
      | ((with_reducible refine Plan.store_lit 24 (.tmp 4) _ w.heap.size #[.int .i64 2, .int .i64 a2, .string v] (K5.get 1 rfl) ?_ ?_ ?_ ?_ ?_ ?_); rotate_left; (· rfl); (· exact cmd_info); (· rfl); (· simp [Value.oneCell']); rotate_left; (· rfl); simp only [Act.put]; have k9 := K5.keep_put (F := fun _ => True) 1 rfl (cs' := #[.int .i64 2, .int .i64 a2, .string v]) rfl; have K9 := K5.put 1 rfl (cs' := #[.int .i64 2, .int .i64 a2, .string v]) rfl; simp only [List.set] at K9 k9))
    exact bodyPost_ret (results_cell_row rfl _ _ _ _ _ _ _ rfl (K9.get 1 rfl) Try.underlying24 rfl cmd_info) rfl ⟨_, _, _, q3, rfl, check_fine (by omega) (by omega) (by omega), K9.die 2 rfl, by omega, Keep.chg hd K9 ((k0.trans k5).trans k9)⟩
  · skip
    go_enter Try.func19, Try.ntmps19
    go_wp2_with (first
      | (go_at_call 17; ((with_reducible refine (N1.out _ (K.die 1 rfl)).mono ?_); rintro r9 w1 ⟨rfl, hd9, hc9⟩; have k9 := (K.dice 1 rfl hd9 hc9).2 (fun _ => True); replace K := (K.dice 1 rfl hd9 hc9).1; simp only [List.set] at k9 K; replace k0 := k0.trans k9; clear k9 hd9 hc9))
      | (go_at_call 17; ((with_reducible refine (N2.out _ (K.die 1 rfl)).mono ?_); rintro r9 w2 ⟨rfl, hd9, hc9⟩; have k9 := (K.dice 1 rfl hd9 hc9).2 (fun _ => True); replace K := (K.dice 1 rfl hd9 hc9).1; simp only [List.set] at k9 K; replace k0 := k0.trans k9; clear k9 hd9 hc9; have k9 := K.keep_al (F := fun _ => True) (.cells #[.int .i64 3, .int .i64 a2, .string ⟨#[]⟩] 24); replace k0 := k0.trans k9; replace K := K.al (.cells #[.int .i64 3, .int .i64 a2, .string ⟨#[]⟩] 24); clear k9; obtain ⟨c0, c1, c2⟩ := cmd_cells (K.get 0 rfl); have f1 := K.free 0 rfl 1; have f2 := K.free 0 rfl 2))
      | ((with_reducible refine Plan.load_lit 24 (.tmp 5) (w2.heap.size) ?_ (K.get 0 rfl) Try.underlying24 ?_ ?_ ?_); (· rfl); (· rfl); (· exact cmd_info); simp only [Act.put, List.setIfInBounds_toArray, List.set_cons_zero, List.set_cons_succ])
      | ((with_reducible refine Plan.store_lit 24 (.tmp 4) _ w.heap.size #[.int .i64 3, .int .i64 a2, .string ⟨#[]⟩] (K.get 1 rfl) ?_ ?_ ?_ ?_ ?_ ?_); rotate_left; (· rfl); (· exact cmd_info); (· rfl); (· simp [Value.oneCell']); rotate_left; (· rfl); simp only [Act.put]; have k9 := K.keep_put (F := fun _ => True) 1 rfl (cs' := #[.int .i64 3, .int .i64 a2, .string ⟨#[]⟩]) rfl; have K9 := K.put 1 rfl (cs' := #[.int .i64 3, .int .i64 a2, .string ⟨#[]⟩]) rfl; simp only [List.set] at K9 k9))
    exact bodyPost_ret (results_cell_row rfl _ _ _ _ _ _ _ rfl (K9.get 1 rfl) Try.underlying24 rfl cmd_info) rfl ⟨_, _, _, q2, rfl, check_fine (by omega) (by omega) (by show ¬ ((3 : Int) = 2 ∧ 0 ≠ 16 ∨ (3 : Int) ≠ 2 ∧ 0 ≠ 0); omega), K9.die 2 rfl, by omega, Keep.chg hd K9 (k0.trans k9)⟩
  · skip
    go_enter Try.func19, Try.ntmps19
    go_wp2_with (first
      | (go_at_call 17; ((with_reducible refine (N1.out _ (K.die 1 rfl)).mono ?_); rintro r9 w1 ⟨rfl, hd9, hc9⟩; have k9 := (K.dice 1 rfl hd9 hc9).2 (fun _ => True); replace K := (K.dice 1 rfl hd9 hc9).1; simp only [List.set] at k9 K; replace k0 := k0.trans k9; clear k9 hd9 hc9))
      | (go_at_call 17; ((with_reducible refine (N2.out _ (K.die 1 rfl)).mono ?_); rintro r9 w2 ⟨rfl, hd9, hc9⟩; have k9 := (K.dice 1 rfl hd9 hc9).2 (fun _ => True); replace K := (K.dice 1 rfl hd9 hc9).1; simp only [List.set] at k9 K; replace k0 := k0.trans k9; clear k9 hd9 hc9; have K5 := K.al (.cells #[.int .i64 4, .int .i64 0, .string ⟨#[]⟩] 24); have k5 := k0.trans (K.keep_al (F := fun _ => True) (.cells #[.int .i64 4, .int .i64 0, .string ⟨#[]⟩] 24)); have k9 := K.keep_al (F := fun _ => True) (.cells #[.int .i64 4, .int .i64 a2, .string ⟨#[]⟩] 24); replace k0 := k0.trans k9; replace K := K.al (.cells #[.int .i64 4, .int .i64 a2, .string ⟨#[]⟩] 24); clear k9; obtain ⟨c0, c1, c2⟩ := cmd_cells (K.get 0 rfl); have f1 := K.free 0 rfl 1; have f2 := K.free 0 rfl 2))
      | ((with_reducible refine Plan.load_lit 24 (.tmp 5) (w2.heap.size) ?_ (K5.get 0 rfl) Try.underlying24 ?_ ?_ ?_); (· rfl); (· rfl); (· exact cmd_info); simp only [Act.put, List.setIfInBounds_toArray, List.set_cons_zero, List.set_cons_succ])
      | ((with_reducible refine Plan.store_lit 24 (.tmp 4) _ w.heap.size #[.int .i64 4, .int .i64 0, .string ⟨#[]⟩] (K5.get 1 rfl) ?_ ?_ ?_ ?_ ?_ ?_); rotate_left; (· rfl); (· exact cmd_info); (· rfl); (· simp [Value.oneCell']); rotate_left; (· rfl); simp only [Act.put]; have k9 := K5.keep_put (F := fun _ => True) 1 rfl (cs' := #[.int .i64 4, .int .i64 0, .string ⟨#[]⟩]) rfl; have K9 := K5.put 1 rfl (cs' := #[.int .i64 4, .int .i64 0, .string ⟨#[]⟩]) rfl; simp only [List.set] at K9 k9))
    exact bodyPost_ret (results_cell_row rfl _ _ _ _ _ _ _ rfl (K9.get 1 rfl) Try.underlying24 rfl cmd_info) rfl ⟨_, _, _, q2, rfl, check_fine (by omega) (by omega) (by show ¬ ((4 : Int) = 2 ∧ 0 ≠ 16 ∨ (4 : Int) ≠ 2 ∧ 0 ≠ 0); omega), K9.die 2 rfl, by omega, Keep.chg hd K9 (k5.trans k9)⟩
end Go.Proofs.Ytpkogdpgchibdaa.Ents

/- The walk of the maker's Rest, for any dice. -/
namespace Go.Proofs.Ytpkogdpgchibdaa
open Go.RowKit Plan
set_option maxHeartbeats 400000 in
/-- Rest: how many numbers are left -/
theorem rest_dice (w : World) (base g : Nat) (zs : List Int) (k : Nat) (hd : Dice w base g zs k) (hl : zs.length ≤ 100000) (hk : k ≤ 100000) :
    Calls Try.prog 18 #[.pointer (some ⟨g, 0, none⟩)] w fun e w' => e = .returned (.int .i64 (max 0 ((zs.length : Int) - (k : Int)))) ∧ w' = w.drew := by
  obtain ⟨v, hg, hown, hne, hb⟩ := hd
  have c0 := cell_of_row _ _ 0 _ _ _ hg
  have c1 := cell_of_row _ _ 1 _ _ _ hg
  simp only [List.getElem?_toArray, List.getElem?_cons_zero, List.getElem?_cons_succ] at c0 c1
  have hwr : IntKind.i64.wrap ((zs.length : Int) - (k : Int)) = (zs.length : Int) - (k : Int) := IntWalk.i64_in _ (by omega)
  have hv : ∃ a c, v = .slice a zs.length c := by
    rcases hown.2 with ⟨h, h0⟩ | ⟨b, c, _, h, _⟩
    · exact ⟨none, 0, by rw [h, h0]⟩
    · exact ⟨_, c, h⟩
  obtain ⟨a, c, rfl⟩ := hv
  clear hown hne hg
  go_enter Try.func18, Try.ntmps18
  go_wp2_with fail
  refine Plan.start (fun w' => w' = w.drew) [(0, true), (1, true), (2, true), (3, true), (4, true), (5, true), (6, true), (7, true), (8, true), (9, true), (10, true), (11, true)] (by kernel_rfl) (by kernel_rfl) (by kernel_rfl) (by kernel_rfl) rfl ?_
  simp only [List.map_cons, List.map_nil, List.getElem?_toArray, List.getElem?_cons_zero, List.getElem?_cons_succ]
  repeat (first | (refine Plan.take ?_ (by rfl) ?_ ?_; rotate_left; (· rintro w9 rfl; go_simp; (try rw [if_neg (by omega)]); all_goals (with_reducible rfl)); simp only [Act.put, List.setIfInBounds_toArray, List.set_cons_zero, List.set_cons_succ]) | (refine Plan.pass (by rfl) ?_; simp only [Act.put, List.setIfInBounds_toArray, List.set_cons_zero, List.set_cons_succ]))
  refine Plan.ends ?_
  go_wp2
  all_goals go_ret
  all_goals exact ⟨ret_i64 (by omega), rfl⟩
end Go.Proofs.Ytpkogdpgchibdaa

/- The walk of ModelReads. -/
namespace Go.Proofs.Ytpkogdpgchibdaa.Ents
open Go.RowKit Plan ModMath CmdMath Rws Env LayMath
theorem made16 (w : World) : (Instr.makeSlice 44 (.int .i64 16) (.int .i64 16)).run Try.prog w = .ok (.slice (some ⟨w.heap.size, 0, none⟩) 16 16) (w.alloc (.cells (madeCells #[.int .u8 0] 16) 5)) :=
  run_make_row' (P := Try.prog) 44 5 (.int .u8 0) 1 Try.underlying44 info_byteC rfl .i64 .i64 16 (by omega) (by omega) w
theorem conv16 (w : World) : (convert 44 9 (.slice (some ⟨w.heap.size, 0, none⟩) 16 16)).run Try.prog (w.alloc (.cells (madeCells #[.int .u8 0] 16) 5)) = .ok (.string zeroC) (w.alloc (.cells (madeCells #[.int .u8 0] 16) 5)) := by
  have h1 := run_convert_bytes_back (P := Try.prog) (w.alloc (.cells (madeCells #[.int .u8 0] 16) 5)) 44 9 5 ⟨w.heap.size, 0, none⟩ 16 (List.replicate 16 0) Try.underlying44 Try.underlying5 Try.underlying9 (fun j hj => by
    have hj' : j < 16 := by simpa using hj
    have e : (⟨w.heap.size, 0, none⟩ : Addr).add j = ⟨w.heap.size, j, none⟩ := by unfold Addr.add; split <;> simp_all
    rw [e, (World.rowIs_made w (.int .u8 0) 16 5).cell hj', List.getElem_replicate]
    rfl)
  rwa [List.length_replicate] at h1
theorem rg_cells2 {w : World} {g : Nat} {a b : Value} {t : TypeId} {fr : Nat × Nat} (h : w.heap[g]? = some (.cells #[a, b] t fr)) : w.cell? ⟨g, 0, none⟩ = some a ∧ w.cell? ⟨g, 1, none⟩ = some b := ⟨cell_of_row _ _ 0 _ _ _ h, cell_of_row _ _ 1 _ _ _ h⟩
theorem str_info1 : (Try.prog.info? 9).map (·.size) = some 1 := by kernel_rfl
theorem newB_is {N : Nat} (h1 : 1 ≤ N) (h2 : N ≤ 128) : newB (N : Int) = List.replicate N zeroC := by
  unfold newB; rw [if_neg (by omega), Int.toNat_natCast]
set_option maxHeartbeats 8000000 in
set_option maxRecDepth 20000 in
theorem modReads_any (H : ModelOk) (a : Option Addr) (n c : Nat) (Z : List Int) (w : World) (hz : IsRow .i64 w a n c Z) :
    Calls Try.prog 4 #[.slice a n c] w fun r w' => r = .returned (.bool true) ∧ Below w.heap.size w w' := by
  have HW := Lib.hid (fun W => modAwake_any H W)
  have HL := Lib.hid (fun W => light_any a n c W)
  have K := Env.start w
  by_cases hm : n ≤ 300
  · have t1 : (n : Int) ≤ 300 := by omega
    have t2 : decide ((n : Int) ≤ 300) = true := decide_eq_true t1
    rw [t2] at HL
    have HR := Lib.hid (roll_any a n c Z w hz hm)
    unfold RollPost at HR
    have hzl : (Z.take n).length ≤ 100000 := by rw [List.length_take]; omega
    generalize Z.take n = zs at *
    clear hz
    go_enter Try.func4, Try.ntmps4
    go_upto_region 5 with (first
      | (go_at_call 15; ((with_reducible refine (HL.out _).mono ?_); rintro r9 w9 ⟨rfl, rfl⟩))
      | (go_at_call 16; ((with_reducible refine (HR.out).mono ?_); rintro r9 w1 ⟨g, rfl, hd, hb⟩; replace K := (K.roll hd hb).1; clear hd hb))
      | (go_at_call 17; ((with_reducible refine (next_chg _ w.heap.size g zs 0 5 (K.die 0 rfl) hzl (by omega) (by omega)).mono ?_); rintro r9 w2 ⟨rfl, hd9, hc9⟩; replace K := (K.dice 0 rfl hd9 hc9).1; simp only [List.set] at K; clear hd9 hc9)))
    have r1 := nxt_range zs 0 5 (by omega)
    have s1 := stp_le zs 0
    generalize nxt zs 0 5 = a5 at *
    generalize stp zs 0 = k1 at *
    obtain ⟨N, hN⟩ : ∃ N : Nat, 1 + a5 = (N : Int) := ⟨(1 + a5).toNat, by omega⟩
    have hw64 : wrap64 (N : Int) = (N : Int) := by unfold wrap64; omega
    simp only [hN, hw64]
    clear hw64
    have hN1 : 1 ≤ N := by omega
    have hN2 : N ≤ 5 := by omega
    have hN3 : (1 : Int) ≤ (N : Int) := by omega
    have hN4 : N ≤ maxLen := by unfold maxLen; omega
    have hma := made_all (R := SR) rfl (⟨#[]⟩ : ByteArray) (u := .string ⟨#[]⟩) rfl N
    clear hN r1
    have H5 := Lib.hid (fun W => H.new (N : Int) W)
    rw [newB_is hN1 (by omega)] at H5
    unfold SPost at H5
    have hmk := fun W => run_make_row' (P := Try.prog) 22 9 (.string ⟨#[]⟩) 16 Try.underlying22 (show (Try.prog.info? 9).map (fun i => (i.zero, i.size, i.bytes)) = some (some (.string ⟨#[]⟩), 1, 16) by kernel_rfl) rfl .i64 .i64 N (by omega) (by omega) W
    go_wp2_with (first
      | (go_at_call 13; ((with_reducible refine (H5.out _).mono ?_); rintro r9 w3 ⟨a1, n1, c1, rfl, hx, hb⟩; have l0 := TList.result (F := fun _ => False) K hb (hx.mono (fun b _ h => .inr (h.resolve_left id))); clear hx; replace K := K.on hb; clear hb; replace l0 := l0.keep (K.keep_made (F := fun _ => False) (R := SR) ⟨#[]⟩ N (madeCells #[.string ⟨#[]⟩] N)); replace K := K.made (R := SR) (cs := madeCells #[.string ⟨#[]⟩] N) ⟨#[]⟩ N hN4 hma.1 hma.2; simp only [show SR.et = 9 from rfl] at l0 K)))
    generalize hw4 : World.alloc w3 _ = w4 at *
    clear hw4 hmk H5
    generalize w3.heap.size = G at *
    have hn1 := l0.length
    rw [List.length_replicate] at hn1
    go_loopw [7] (fun x wr => ∃ j : Nat, x = .int .i64 (j : Int) ∧ j ≤ N ∧ Env w wr [Env.lst SR (Env.slv G N N) N (List.replicate j zeroC ++ List.replicate (N - j) ⟨#[]⟩), dieT w.heap.size g zs k1] ∧ SList wr (Quiet w (fun _ => False) wr [Env.lst SR (Env.slv G N N) N (List.replicate j zeroC ++ List.replicate (N - j) ⟨#[]⟩), dieT w.heap.size g zs k1]) a1 n1 c1 (List.replicate N zeroC)) (fun x _ => N - (intOf x).toNat)
    case atStart => exact ⟨0, rfl, by omega, K, l0⟩
    case round =>
      clear K l0
      obtain ⟨j, rfl, hj, K, l0⟩ := hrel
      by_cases hlt : j < N
      · have hjI : (j : Int) < (N : Int) := by omega
        have hat : (List.replicate j zeroC ++ List.replicate (N - j) (⟨#[]⟩ : ByteArray))[j]? = some ⟨#[]⟩ := by
          rw [List.getElem?_append_right (by simp), List.length_replicate, Nat.sub_self, List.getElem?_replicate, if_pos (by omega)]
        have hset : (List.replicate j zeroC ++ List.replicate (N - j) (⟨#[]⟩ : ByteArray)).set j zeroC = List.replicate (j + 1) zeroC ++ List.replicate (N - (j + 1)) ⟨#[]⟩ := by
          rw [List.set_append_right _ _ (by simp), List.length_replicate, Nat.sub_self, show N - j = (N - (j + 1)) + 1 by omega, List.replicate_succ (n := N - (j + 1)), List.set_cons_zero, List.replicate_succ' (n := j), List.append_assoc]
          rfl
        have hmk := made16 wr
        have hcv := conv16 wr
        have k9 := K.keep_on (F := fun _ => False) ((Below.refl _ _).alloc (Nat.le_refl _) (.cells (madeCells #[.int .u8 0] 16) 5))
        replace l0 := l0.keep k9
        replace K := K.al' (.cells (madeCells #[.int .u8 0] 16) 5)
        clear k9
        obtain ⟨hc1, hf1⟩ := K.own1 srOk rfl 0 rfl hat (u := .string ⟨#[]⟩) rfl
        obtain ⟨K8, k8⟩ := K.set1 srOk rfl 0 rfl hlt zeroC (u := .string zeroC) rfl
        replace l0 := l0.keep (k8 _)
        rw [hset] at K8 l0
        simp only [List.set] at K8 l0
        clear k8 K hat hset
        go_wp2_with fail
        generalize World.setCell _ _ _ = w5 at *
        go_roundw
        case rel => exact ⟨j + 1, by go_num, by omega, K8, l0⟩
        case measure => simp [intOf]; omega
      · obtain rfl : j = N := by omega
        rw [Nat.sub_self, List.replicate_zero, List.append_nil] at K l0
        have hjI : ¬ (j : Int) < (j : Int) := by omega
        go_wp2_with fail
        obtain rfl : n1 = j := hn1.symm
        have HS := Lib.hid (fun W F G L a b n c m k (h1 : SList W F a n c L) (h2 : SList W G b m k L) => refBSame_any F G L a b n c m k W h1 h2)
        clear hj hma hlt
        generalize hNN : n1 = N at *
        clear hNN hjI
        have HC := Lib.hid (fun W k (h : Dice W w.heap.size g zs k) => modCmd_any w.heap.size g zs k (N : Int) W h hzl (by omega))
        generalize hB0 : List.replicate N zeroC = B0 at *
        clear hB0
        go_loopw [5, 8] (fun y x wr => ∃ (j k : Nat) (BL : List ByteArray) (a : Option Addr) (c : Nat), x = .int .i64 (j : Int) ∧ j ≤ 40 ∧ y = .slice a N c ∧ k ≤ 3 * j + 1 ∧ Env w wr [Env.lst SR (Env.slv G N N) N BL, dieT w.heap.size g zs k] ∧ SList wr (Quiet w (fun _ => False) wr [Env.lst SR (Env.slv G N N) N BL, dieT w.heap.size g zs k]) a N c BL) (fun _ x _ => 40 - (intOf x).toNat)
        case atStart => exact ⟨0, k1, B0, a1, c1, rfl, by omega, rfl, by omega, K, l0⟩
        case round =>
          clear K l0 B0
          obtain ⟨j, k, BL, a1, c1, rfl, hj, rfl, hk, K, l0⟩ := hrel
          have hlen := l0.length
          by_cases hlt : j < 40
          · have hjI : (j : Int) < 40 := by omega
            have t5 : decide ((j : Int) < 40) = true := decide_eq_true hjI
            have HD := Lib.hid (fun W (h : Dice W w.heap.size g zs k) => rest_dice W w.heap.size g zs k h hzl (by omega))
            by_cases hk2 : k < zs.length
            · have hM : 0 < max (0 : Int) ((zs.length : Int) - (k : Int)) := by rw [Int.max_eq_right (by omega)]; omega
              generalize max (0 : Int) ((zs.length : Int) - (k : Int)) = M at *
              go_upto_region 15 with (first
                | (go_at_call 18; ((with_reducible refine (HD.out _ (K.die 1 rfl)).mono ?_); rintro r9 w5 ⟨rfl, rfl⟩; replace l0 := l0.keep K.keep_drew; replace K := K.drew))
                | (go_at_call 19; ((with_reducible refine (HC.out _ _ (K.die 1 rfl)).mono ?_); rintro r9 w6 ⟨xk, xb, xs, k6, rfl, hx, hd9, hk6, hc9⟩; replace l0 := l0.keep ((K.dice 1 rfl hd9 hc9).2 (fun _ => False)); replace K := (K.dice 1 rfl hd9 hc9).1; simp only [List.set] at K l0; clear hd9 hc9; replace l0 := l0.keep (K.keep_al (F := fun _ => False) (.cells #[.int .i64 xk, .int .i64 xb, .string xs] 24)); replace K := K.al (.cells #[.int .i64 xk, .int .i64 xb, .string xs] 24))))
              generalize hw7 : w6.alloc (.cells #[.int .i64 xk, .int .i64 xb, .string xs] 24) = w7 at *
              clear hw7
              generalize w6.heap.size = G2 at *
              have hz2 := check_zero hx
              obtain hk9 | hk9 | hk9 | hk9 : xk = 1 ∨ xk = 2 ∨ xk = 3 ∨ xk = 4 := by omega
              · subst hk9
                obtain ⟨i, rfl⟩ : ∃ i : Nat, xb = (i : Int) := ⟨xb.toNat, by omega⟩
                have hi : i < N := by omega
                have hiI : (i : Int) < (N : Int) := by omega
                obtain ⟨s2, hs2⟩ : ∃ s2, BL[i]? = some s2 := ⟨_, List.getElem?_eq_getElem (by omega)⟩
                have hE : errM BL ⟨1, (i : Int), xs⟩ = 0 := by unfold errM; rw [hlen]; exact hx
                have e9 := apply_read (x := ⟨1, (i : Int), xs⟩) hE rfl hs2
                have HA := Lib.hid (fun W F a c (h : SList W F a N c BL) => H.apply F BL a N c 1 (i : Int) xs W h (by omega))
                rw [e9.1, e9.2] at HA
                unfold APost at HA
                simp only [resV] at HA
                have hlenH := Lib.hid hlen
                clear e9 hE hz2 hx hlen
                go_upto_region 16 with (first
                  | ((with_reducible refine Plan.load_lit 24 (.tmp 9) (G2) ?_ (K.get 0 rfl) Try.underlying24 ?_ ?_ ?_); (· rfl); (· rfl); (· exact cmd_info); simp only [Act.put, List.setIfInBounds_toArray, List.set_cons_zero, List.set_cons_succ])
                  | (go_at_call 8; ((with_reducible refine (HA.out _ _ _ _ l0).mono ?_); rintro r9 w8 ⟨a2, n2, c2, rfl, hx9, hb⟩; have l2 := TList.result K hb hx9; clear hx9 l0; replace K := K.on hb; clear hb; replace l2 := l2.keep (K.keep_al (F := fun _ => False) (.cells #[.int .i64 0, .string s2] 30)); replace K := K.al (.cells #[.int .i64 0, .string s2] 30))))
                generalize hw9 : w8.alloc (.cells #[.int .i64 0, .string s2] 30) = w9 at *
                clear hw9
                generalize w8.heap.size = G3 at *
                refine Plan.start (fun W => ((W.cell? ⟨G3, 0, none⟩ = some (.int .i64 0) ∧ W.cell? ⟨G3, 1, none⟩ = some (.string s2)) ∧ W.cell? ⟨G2, 0, none⟩ = some (.int .i64 1) ∧ W.cell? ⟨G2, 1, none⟩ = some (.int .i64 (i : Int)) ∧ W.cell? ⟨G2, 2, none⟩ = some (.string xs)) ∧ W.cell? ⟨G, i, none⟩ = some (.string s2)) [(0, true), (1, true), (2, true), (3, true), (4, true), (5, true), (6, true), (7, true), (8, true), (9, true), (10, true), (11, true), (12, true), (13, true), (14, true), (15, true), (16, true), (17, true), (18, true), (19, true), (20, true), (21, true), (22, true), (23, true), (24, true), (25, true), (26, true), (27, true)] (by kernel_rfl) (by kernel_rfl) (by kernel_rfl) (by kernel_rfl) ⟨⟨rg_cells2 (K.drew.get 0 rfl), cmd_cells (K.drew.get 1 rfl)⟩, (K.drew.own1 srOk rfl 2 rfl hs2 (u := .string s2) rfl).1⟩ ?_
                simp only [List.map_cons, List.map_nil, List.getElem?_toArray, List.getElem?_cons_zero, List.getElem?_cons_succ]
                replace l2 := l2.keep K.keep_drew
                replace K := K.drew
                generalize World.drew w9 = w10 at *
                repeat (first | (refine Plan.take ?_ (by rfl) ?_ ?_; rotate_left; (· rintro w9 ⟨⟨⟨u0, u1⟩, v0, v1, v2⟩, y0⟩; go_simp; (try rw [if_neg (by omega)]); all_goals (with_reducible rfl)); simp only [Act.put, List.setIfInBounds_toArray, List.set_cons_zero, List.set_cons_succ]) | (refine Plan.pass (by rfl) ?_; simp only [Act.put, List.setIfInBounds_toArray, List.set_cons_zero, List.set_cons_succ]))
                refine Plan.ends ?_
                obtain ⟨c0, c1', c2'⟩ := cmd_cells (K.get 1 rfl)
                go_wp2_with fail
                have K8 := K
                have k9 := K8.keep_sub (F := fun _ => False) (T' := [Env.lst SR (Env.slv G N N) N (BL), dieT w.heap.size g zs k6]) (fun y hy => by rcases List.mem_cons.1 hy with rfl | hy; exact List.mem_of_getElem? (i := 2) rfl; rw [List.mem_singleton.1 hy]; exact List.mem_of_getElem? (i := 3) rfl)
                have K9 := K8.sub (T' := [Env.lst SR (Env.slv G N N) N (BL), dieT w.heap.size g zs k6]) [2, 3] rfl (by simp) (by simp)
                have l9 := l2.keep k9
                have hq := l9.length
                obtain rfl : n2 = N := by have := hlenH.out; first | omega | (simp only [List.length_set] at hq; omega)
                go_roundw
                case rel => exact ⟨j + 1, k6, BL, a2, c2, by go_num, by omega, rfl, by omega, K9, l9⟩
                case measure => simp [intOf]; omega
              · subst hk9
                obtain ⟨i, rfl⟩ : ∃ i : Nat, xb = (i : Int) := ⟨xb.toNat, by omega⟩
                have hi : i < N := by omega
                have hiI : (i : Int) < (N : Int) := by omega
                obtain ⟨s2, hs2⟩ : ∃ s2, BL[i]? = some s2 := ⟨_, List.getElem?_eq_getElem (by omega)⟩
                have hE : errM BL ⟨2, (i : Int), xs⟩ = 0 := by unfold errM; rw [hlen]; exact hx
                have e9 := apply_write (x := ⟨2, (i : Int), xs⟩) hE rfl
                simp only [Int.toNat_natCast] at e9
                have HA := Lib.hid (fun W F a c (h : SList W F a N c BL) => H.apply F BL a N c 2 (i : Int) xs W h (by omega))
                rw [e9.1, e9.2] at HA
                unfold APost at HA
                simp only [resV] at HA
                have hlenH := Lib.hid hlen
                clear e9 hE hz2 hx hlen
                go_upto_region 16 with (first
                  | ((with_reducible refine Plan.load_lit 24 (.tmp 9) (G2) ?_ (K.get 0 rfl) Try.underlying24 ?_ ?_ ?_); (· rfl); (· rfl); (· exact cmd_info); simp only [Act.put, List.setIfInBounds_toArray, List.set_cons_zero, List.set_cons_succ])
                  | (go_at_call 8; ((with_reducible refine (HA.out _ _ _ _ l0).mono ?_); rintro r9 w8 ⟨a2, n2, c2, rfl, hx9, hb⟩; have l2 := TList.result K hb hx9; clear hx9 l0; replace K := K.on hb; clear hb; replace l2 := l2.keep (K.keep_al (F := fun _ => False) (.cells #[.int .i64 0, .string ⟨#[]⟩] 30)); replace K := K.al (.cells #[.int .i64 0, .string ⟨#[]⟩] 30))))
                generalize hw9 : w8.alloc (.cells #[.int .i64 0, .string ⟨#[]⟩] 30) = w9 at *
                clear hw9
                generalize w8.heap.size = G3 at *
                refine Plan.start (fun W => (W.cell? ⟨G3, 0, none⟩ = some (.int .i64 0) ∧ W.cell? ⟨G3, 1, none⟩ = some (.string ⟨#[]⟩)) ∧ W.cell? ⟨G2, 0, none⟩ = some (.int .i64 2) ∧ W.cell? ⟨G2, 1, none⟩ = some (.int .i64 (i : Int)) ∧ W.cell? ⟨G2, 2, none⟩ = some (.string xs)) [(0, true), (1, true), (2, true), (3, true), (4, true), (5, true), (6, true), (7, true), (8, true), (9, true), (10, true), (11, true), (12, true), (13, true), (14, true), (15, true), (16, true), (17, true), (18, true), (19, true), (20, true), (21, true), (22, true), (23, true), (24, true), (25, true), (26, true), (27, true)] (by kernel_rfl) (by kernel_rfl) (by kernel_rfl) (by kernel_rfl) ⟨rg_cells2 (K.drew.get 0 rfl), cmd_cells (K.drew.get 1 rfl)⟩ ?_
                simp only [List.map_cons, List.map_nil, List.getElem?_toArray, List.getElem?_cons_zero, List.getElem?_cons_succ]
                replace l2 := l2.keep K.keep_drew
                replace K := K.drew
                generalize World.drew w9 = w10 at *
                repeat (first | (refine Plan.take ?_ (by rfl) ?_ ?_; rotate_left; (· rintro w9 ⟨⟨u0, u1⟩, v0, v1, v2⟩; go_simp; (try rw [if_neg (by omega)]); all_goals (with_reducible rfl)); simp only [Act.put, List.setIfInBounds_toArray, List.set_cons_zero, List.set_cons_succ]) | (refine Plan.pass (by rfl) ?_; simp only [Act.put, List.setIfInBounds_toArray, List.set_cons_zero, List.set_cons_succ]))
                refine Plan.ends ?_
                obtain ⟨c0, c1', c2'⟩ := cmd_cells (K.get 1 rfl)
                obtain ⟨hc1, hf1⟩ := K.own1 srOk rfl 2 rfl hs2 (u := .string s2) rfl
                obtain ⟨K8, k8⟩ := K.set1 srOk rfl 2 rfl hi xs (u := .string xs) rfl
                replace l2 := l2.keep (k8 _)
                simp only [List.set] at K8 l2
                clear k8 K
                go_wp2_with fail
                generalize World.setCell _ _ _ = w11 at *
                have k9 := K8.keep_sub (F := fun _ => False) (T' := [Env.lst SR (Env.slv G N N) N (BL.set i xs), dieT w.heap.size g zs k6]) (fun y hy => by rcases List.mem_cons.1 hy with rfl | hy; exact List.mem_of_getElem? (i := 2) rfl; rw [List.mem_singleton.1 hy]; exact List.mem_of_getElem? (i := 3) rfl)
                have K9 := K8.sub (T' := [Env.lst SR (Env.slv G N N) N (BL.set i xs), dieT w.heap.size g zs k6]) [2, 3] rfl (by simp) (by simp)
                have l9 := l2.keep k9
                have hq := l9.length
                obtain rfl : n2 = N := by have := hlenH.out; first | omega | (simp only [List.length_set] at hq; omega)
                go_roundw
                case rel => exact ⟨j + 1, k6, BL.set i xs, a2, c2, by go_num, by omega, rfl, by omega, K9, l9⟩
                case measure => simp [intOf]; omega
              · subst hk9
                obtain ⟨i, rfl⟩ : ∃ i : Nat, xb = (i : Int) := ⟨xb.toNat, by omega⟩
                have hi : i < N := by omega
                have hiI : (i : Int) < (N : Int) := by omega
                obtain ⟨s2, hs2⟩ : ∃ s2, BL[i]? = some s2 := ⟨_, List.getElem?_eq_getElem (by omega)⟩
                have hE : errM BL ⟨3, (i : Int), xs⟩ = 0 := by unfold errM; rw [hlen]; exact hx
                have e9 := apply_trim (x := ⟨3, (i : Int), xs⟩) hE rfl
                simp only [Int.toNat_natCast] at e9
                have HA := Lib.hid (fun W F a c (h : SList W F a N c BL) => H.apply F BL a N c 3 (i : Int) xs W h (by omega))
                rw [e9.1, e9.2] at HA
                unfold APost at HA
                simp only [resV] at HA
                have hlenH := Lib.hid hlen
                clear e9 hE hz2 hx hlen
                go_upto_region 16 with (first
                  | ((with_reducible refine Plan.load_lit 24 (.tmp 9) (G2) ?_ (K.get 0 rfl) Try.underlying24 ?_ ?_ ?_); (· rfl); (· rfl); (· exact cmd_info); simp only [Act.put, List.setIfInBounds_toArray, List.set_cons_zero, List.set_cons_succ])
                  | (go_at_call 8; ((with_reducible refine (HA.out _ _ _ _ l0).mono ?_); rintro r9 w8 ⟨a2, n2, c2, rfl, hx9, hb⟩; have l2 := TList.result K hb hx9; clear hx9 l0; replace K := K.on hb; clear hb; replace l2 := l2.keep (K.keep_al (F := fun _ => False) (.cells #[.int .i64 0, .string ⟨#[]⟩] 30)); replace K := K.al (.cells #[.int .i64 0, .string ⟨#[]⟩] 30))))
                generalize hw9 : w8.alloc (.cells #[.int .i64 0, .string ⟨#[]⟩] 30) = w9 at *
                clear hw9
                generalize w8.heap.size = G3 at *
                refine Plan.start (fun W => (W.cell? ⟨G3, 0, none⟩ = some (.int .i64 0) ∧ W.cell? ⟨G3, 1, none⟩ = some (.string ⟨#[]⟩)) ∧ W.cell? ⟨G2, 0, none⟩ = some (.int .i64 3) ∧ W.cell? ⟨G2, 1, none⟩ = some (.int .i64 (i : Int)) ∧ W.cell? ⟨G2, 2, none⟩ = some (.string xs)) [(0, true), (1, true), (2, true), (3, true), (4, true), (5, true), (6, true), (7, true), (8, true), (9, true), (10, true), (11, true), (12, true), (13, true), (14, true), (15, true), (16, true), (17, true), (18, true), (19, true), (20, true), (21, true), (22, true), (23, true), (24, true), (25, true), (26, true), (27, true)] (by kernel_rfl) (by kernel_rfl) (by kernel_rfl) (by kernel_rfl) ⟨rg_cells2 (K.drew.get 0 rfl), cmd_cells (K.drew.get 1 rfl)⟩ ?_
                simp only [List.map_cons, List.map_nil, List.getElem?_toArray, List.getElem?_cons_zero, List.getElem?_cons_succ]
                replace l2 := l2.keep K.keep_drew
                replace K := K.drew
                generalize World.drew w9 = w10 at *
                repeat (first | (refine Plan.take ?_ (by rfl) ?_ ?_; rotate_left; (· rintro w9 ⟨⟨u0, u1⟩, v0, v1, v2⟩; go_simp; (try rw [if_neg (by omega)]); all_goals (with_reducible rfl)); simp only [Act.put, List.setIfInBounds_toArray, List.set_cons_zero, List.set_cons_succ]) | (refine Plan.pass (by rfl) ?_; simp only [Act.put, List.setIfInBounds_toArray, List.set_cons_zero, List.set_cons_succ]))
                refine Plan.ends ?_
                obtain ⟨c0, c1', c2'⟩ := cmd_cells (K.get 1 rfl)
                go_upto_region 22 with fail
                refine Plan.start (fun W => W.cell? ⟨G2, 0, none⟩ = some (.int .i64 3) ∧ W.cell? ⟨G2, 1, none⟩ = some (.int .i64 (i : Int)) ∧ W.cell? ⟨G2, 2, none⟩ = some (.string xs)) [(0, true), (1, true), (2, true), (3, false), (4, false), (5, true), (6, false)] (by kernel_rfl) (by kernel_rfl) (by kernel_rfl) (by kernel_rfl) (cmd_cells (K.drew.get 1 rfl)) ?_
                simp only [List.map_cons, List.map_nil, List.getElem?_toArray, List.getElem?_cons_zero, List.getElem?_cons_succ]
                replace l2 := l2.keep K.keep_drew
                replace K := K.drew
                generalize World.drew w10 = w11 at *
                repeat (first | (refine Plan.take ?_ (by rfl) ?_ ?_; rotate_left; (· rintro w9 ⟨v0, v1, v2⟩; go_simp; (try rw [if_neg (by omega)]); all_goals (with_reducible rfl)); simp only [Act.put, List.setIfInBounds_toArray, List.set_cons_zero, List.set_cons_succ]) | (refine Plan.pass (by rfl) ?_; simp only [Act.put, List.setIfInBounds_toArray, List.set_cons_zero, List.set_cons_succ]))
                have hmk := made16 w11
                have hcv := conv16 w11
                have k9 := K.keep_on (F := fun _ => False) ((Below.refl _ _).alloc (Nat.le_refl _) (.cells (madeCells #[.int .u8 0] 16) 5))
                replace l2 := l2.keep k9
                replace K := K.al' (.cells (madeCells #[.int .u8 0] 16) 5)
                clear k9
                refine Plan.make (by rfl) (.slice (some ⟨w11.heap.size, 0, none⟩) 16 16) (w11.alloc (.cells (madeCells #[.int .u8 0] 16) 5)) ?_ (cmd_cells (K.get 1 rfl)) ?_
                · go_simp
                simp only [Act.put, List.setIfInBounds_toArray, List.set_cons_zero, List.set_cons_succ]
                refine Plan.make (by rfl) (.string zeroC) (w11.alloc (.cells (madeCells #[.int .u8 0] 16) 5)) ?_ (cmd_cells (K.get 1 rfl)) ?_
                · go_simp
                simp only [Act.put, List.setIfInBounds_toArray, List.set_cons_zero, List.set_cons_succ]
                repeat (first | (refine Plan.take ?_ (by rfl) ?_ ?_; rotate_left; (· rintro w9 ⟨v0, v1, v2⟩; go_simp; (try rw [if_neg (by omega)]); all_goals (with_reducible rfl)); simp only [Act.put, List.setIfInBounds_toArray, List.set_cons_zero, List.set_cons_succ]) | (refine Plan.pass (by rfl) ?_; simp only [Act.put, List.setIfInBounds_toArray, List.set_cons_zero, List.set_cons_succ]))
                clear hmk hcv
                refine Plan.carry (by rfl) (K.store_own srOk rfl 2 rfl 9 (.tmp 98) (.tmp 97) rfl hi zeroC (u := .string zeroC) rfl rfl rfl str_info1 rfl ?_)
                intro w12 K8 k8
                replace l2 := l2.keep (k8 _)
                simp only [List.set] at K8 l2
                clear k8 K
                refine ⟨cmd_cells (K8.get 1 rfl), ?_⟩
                simp only [Act.put]
                refine Plan.ends ?_
                go_wp2_with fail
                have k9 := K8.keep_sub (F := fun _ => False) (T' := [Env.lst SR (Env.slv G N N) N (BL.set i zeroC), dieT w.heap.size g zs k6]) (fun y hy => by rcases List.mem_cons.1 hy with rfl | hy; exact List.mem_of_getElem? (i := 2) rfl; rw [List.mem_singleton.1 hy]; exact List.mem_of_getElem? (i := 3) rfl)
                have K9 := K8.sub (T' := [Env.lst SR (Env.slv G N N) N (BL.set i zeroC), dieT w.heap.size g zs k6]) [2, 3] rfl (by simp) (by simp)
                have l9 := l2.keep k9
                have hq := l9.length
                obtain rfl : n2 = N := by have := hlenH.out; first | omega | (simp only [List.length_set] at hq; omega)
                go_roundw
                case rel => exact ⟨j + 1, k6, BL.set i zeroC, a2, c2, by go_num, by omega, rfl, by omega, K9, l9⟩
                case measure => simp [intOf]; omega
              · subst hk9
                have hE : errM BL ⟨4, xb, xs⟩ = 0 := by unfold errM; rw [hlen]; exact hx
                have e9 := apply_flush (x := ⟨4, xb, xs⟩) hE rfl
                have HA := Lib.hid (fun W F a c (h : SList W F a N c BL) => H.apply F BL a N c 4 xb xs W h (by omega))
                rw [e9.1, e9.2] at HA
                unfold APost at HA
                simp only [resV] at HA
                have hlenH := Lib.hid hlen
                clear e9 hE hz2 hx hlen
                go_upto_region 16 with (first
                  | ((with_reducible refine Plan.load_lit 24 (.tmp 9) (G2) ?_ (K.get 0 rfl) Try.underlying24 ?_ ?_ ?_); (· rfl); (· rfl); (· exact cmd_info); simp only [Act.put, List.setIfInBounds_toArray, List.set_cons_zero, List.set_cons_succ])
                  | (go_at_call 8; ((with_reducible refine (HA.out _ _ _ _ l0).mono ?_); rintro r9 w8 ⟨a2, n2, c2, rfl, hx9, hb⟩; have l2 := TList.result K hb hx9; clear hx9 l0; replace K := K.on hb; clear hb; replace l2 := l2.keep (K.keep_al (F := fun _ => False) (.cells #[.int .i64 0, .string ⟨#[]⟩] 30)); replace K := K.al (.cells #[.int .i64 0, .string ⟨#[]⟩] 30))))
                generalize hw9 : w8.alloc (.cells #[.int .i64 0, .string ⟨#[]⟩] 30) = w9 at *
                clear hw9
                generalize w8.heap.size = G3 at *
                refine Plan.start (fun W => (W.cell? ⟨G3, 0, none⟩ = some (.int .i64 0) ∧ W.cell? ⟨G3, 1, none⟩ = some (.string ⟨#[]⟩)) ∧ W.cell? ⟨G2, 0, none⟩ = some (.int .i64 4) ∧ W.cell? ⟨G2, 1, none⟩ = some (.int .i64 xb) ∧ W.cell? ⟨G2, 2, none⟩ = some (.string xs)) [(0, true), (1, true), (2, true), (3, true), (4, true), (5, true), (6, true), (7, true), (8, true), (9, true), (10, true), (11, true), (12, true), (13, true), (14, true), (15, true), (16, true), (17, true), (18, true), (19, true), (20, true), (21, true), (22, true), (23, true), (24, true), (25, true), (26, true), (27, true)] (by kernel_rfl) (by kernel_rfl) (by kernel_rfl) (by kernel_rfl) ⟨rg_cells2 (K.drew.get 0 rfl), cmd_cells (K.drew.get 1 rfl)⟩ ?_
                simp only [List.map_cons, List.map_nil, List.getElem?_toArray, List.getElem?_cons_zero, List.getElem?_cons_succ]
                replace l2 := l2.keep K.keep_drew
                replace K := K.drew
                generalize World.drew w9 = w10 at *
                repeat (first | (refine Plan.take ?_ (by rfl) ?_ ?_; rotate_left; (· rintro w9 ⟨⟨u0, u1⟩, v0, v1, v2⟩; go_simp; (try rw [if_neg (by omega)]); all_goals (with_reducible rfl)); simp only [Act.put, List.setIfInBounds_toArray, List.set_cons_zero, List.set_cons_succ]) | (refine Plan.pass (by rfl) ?_; simp only [Act.put, List.setIfInBounds_toArray, List.set_cons_zero, List.set_cons_succ]))
                refine Plan.ends ?_
                obtain ⟨c0, c1', c2'⟩ := cmd_cells (K.get 1 rfl)
                go_wp2_with fail
                have K8 := K
                have k9 := K8.keep_sub (F := fun _ => False) (T' := [Env.lst SR (Env.slv G N N) N (BL), dieT w.heap.size g zs k6]) (fun y hy => by rcases List.mem_cons.1 hy with rfl | hy; exact List.mem_of_getElem? (i := 2) rfl; rw [List.mem_singleton.1 hy]; exact List.mem_of_getElem? (i := 3) rfl)
                have K9 := K8.sub (T' := [Env.lst SR (Env.slv G N N) N (BL), dieT w.heap.size g zs k6]) [2, 3] rfl (by simp) (by simp)
                have l9 := l2.keep k9
                have hq := l9.length
                obtain rfl : n2 = N := by have := hlenH.out; first | omega | (simp only [List.length_set] at hq; omega)
                go_roundw
                case rel => exact ⟨j + 1, k6, BL, a2, c2, by go_num, by omega, rfl, by omega, K9, l9⟩
                case measure => simp [intOf]; omega
            · have hM : max (0 : Int) ((zs.length : Int) - (k : Int)) = 0 := Int.max_eq_left (by omega)
              rw [hM] at HD
              clear hM hlen
              go_wp2_with (first
                | (go_at_call 18; ((with_reducible refine (HD.out _ (K.die 1 rfl)).mono ?_); rintro r9 w5 ⟨rfl, rfl⟩; replace l0 := l0.keep K.keep_drew; replace K := K.drew))
                | (go_at_call 12; ((with_reducible refine (HS.out _ _ _ _ _ _ _ _ _ _ l0 (K.list srOk 0 rfl)).mono ?_); rintro r9 w7 ⟨rfl, hb⟩; replace K := K.on hb; clear hb l0))
                | (go_at_call 7; ((with_reducible refine (HW.out _).mono ?_); rintro r9 w9 ⟨rfl, hb⟩; replace K := K.on hb; clear hb)))
              go_ret
              exact ⟨rfl, K.hb⟩
          · obtain rfl : j = 40 := by omega
            have hjI : ¬ ((40 : Nat) : Int) < 40 := by omega
            have t5 : decide (((40 : Nat) : Int) < 40) = false := decide_eq_false hjI
            clear hlen
            go_wp2_with (first
              | (go_at_call 18; ((with_reducible refine (HD.out _ (K.die 1 rfl)).mono ?_); rintro r9 w5 ⟨rfl, rfl⟩; replace l0 := l0.keep K.keep_drew; replace K := K.drew))
              | (go_at_call 12; ((with_reducible refine (HS.out _ _ _ _ _ _ _ _ _ _ l0 (K.list srOk 0 rfl)).mono ?_); rintro r9 w7 ⟨rfl, hb⟩; replace K := K.on hb; clear hb l0))
              | (go_at_call 7; ((with_reducible refine (HW.out _).mono ?_); rintro r9 w9 ⟨rfl, hb⟩; replace K := K.on hb; clear hb)))
            go_ret
            exact ⟨rfl, K.hb⟩
  · have t1 : ¬ (n : Int) ≤ 300 := by omega
    have t2 : decide ((n : Int) ≤ 300) = false := decide_eq_false t1
    rw [t2] at HL
    clear hz
    go_enter Try.func4, Try.ntmps4
    go_wp2_with (first
      | (go_at_call 15; ((with_reducible refine (HL.out _).mono ?_); rintro r9 w9 ⟨rfl, rfl⟩))
      | (go_at_call 7; ((with_reducible refine (HW.out _).mono ?_); rintro r9 w9 ⟨rfl, hb⟩; replace K := K.on hb; clear hb)))
    go_ret
    exact ⟨rfl, K.hb⟩
end Go.Proofs.Ytpkogdpgchibdaa.Ents

/- ModelReads: a read returns what was written last, or zeros behind a trim, whatever happened to other blocks. No condition. -/
namespace Go.Proofs.Ytpkogdpgchibdaa.modelReads
open Go.ChangeShapes Go.WideShapes Go.ChangeAt Go.RowKit
open Go.ChangeMaps (open_string shut_string)
set_option linter.unusedVariables false

theorem own : ownKnob Try.prog.godebug = none := by kernel_rfl
theorem laidOut : laidOutB Try.prog = true := by kernel_rfl

theorem walk (a0 : Option Addr) (l0 c0 : Nat) (z0 : List Int) (w : World) (w0 : IsRow .i64 w a0 l0 c0 z0) :
    Calls Try.prog 4 #[.slice a0 l0 c0] w fun e w' => e = .returned (.bool true) ∧ Below w.heap.size w w' := by
  exact Ents.modReads_any Ents.modelOk a0 l0 c0 z0 w w0

set_option maxRecDepth 100000 in
theorem lifted (os : Os) (started : os.Started) (H : Type) (enc : TypeId × Value → H) :
    ReturnsInHanded {} Try.checked os 4 .any (Rows.modelReadsSpec.pre6 enc Try.prog Try.f4 Rows.modelReadsRow.domain false) (Rows.modelReadsSpec.post enc Try.prog Try.f4 false true false false) := by
  refine returnsInHanded_of_change (C := Try.checked) own started (by kernel_rfl) Try.func4
    (ChangeSpec.witness6 (enc := enc) (C := Try.checked) false ⟨#[], #[.slice none 0 0], []⟩ 8 (by kernel_rfl) (by kernel_rfl) (by kernel_rfl) (by kernel_rfl)) ?_
  intro W base args ds gs before hval0 hW hcnd _
  have hval : ∀ (j : Nat) t v, Try.f4.params[j]? = some t → args[j]? = some v → Value.okWide Try.prog W .any base t v := hval0
  have hW' := hW
  obtain ⟨p, q, hA0, hV, rfl, hfz, hnd⟩ := hW
  have hA : DataW.TrodAll enc Try.prog W 0 (fun _ => true) true Try.f4.params.toList args.toList ds p := hA0
  rw [Try.params4] at hA hval
  obtain ⟨v0, vs0, d0, ds0, p0, q0, hargs, rfl, rfl, h0, r0⟩ := trodAll_cons hA
  obtain ⟨rfl, rfl, rfl⟩ := trodAll_nil r0
  obtain rfl : args = #[v0] := by cases args; simp_all
  obtain ⟨rfl, rfl⟩ := trodVars_none hV
  have k0' := h0
  have lt0 : ∀ x ∈ p0, x.block < W.heap.size := by obtain ⟨m, hm⟩ := h0; exact DataW.trod_lt m _ _ _ hm
  obtain ⟨a0, l0, c0, rfl⟩ := okWide_slice Try.underlying39 (hval 0 39 v0 rfl rfl)
  obtain ⟨z0, w0⟩ : ∃ zs, IsRow .i64 W a0 l0 c0 zs := by
    obtain ⟨fuel, hf⟩ := h0
    rcases open_ints Try.underlying39 Try.underlying3 (by kernel_rfl) hf with ⟨hcs, _⟩ | ⟨x, l, c, zs, hcs, _, hl, hm, hz, _, hcell, hwz⟩
    · simp [Value.cells] at hcs
      obtain ⟨rfl, rfl, rfl⟩ := hcs
      exact ⟨[], .inl ⟨rfl, rfl, rfl, rfl⟩⟩
    · simp [Value.cells] at hcs
      obtain ⟨rfl, rfl, rfl⟩ := hcs
      exact ⟨zs, .inr ⟨_, rfl, hl, hm, by simpa using hz, hcell, hwz⟩⟩
  clear hA0 hval0
  refine (walk a0 l0 c0 z0 W w0).mono fun e W' ⟨he, bel⟩ => ?_
  subst he
  exact ⟨_, rfl, _, _, _, [], _, [], hW', trodAll_mk1 (shut_bool Try.underlying4 _), (trodAll_cons_mk (Below.trod laidOut (by kernel_rfl) (of_decide_eq_true (by kernel_rfl)) k0' bel lt0) trodAll_mk0), rfl, bel.frame _, fun h => by cases h⟩

theorem over : Rows.modelReadsRow.holds Try.pinned (OpenSpec.ofChange Rows.modelReadsSpec) :=
  OpenClaim.holds_of_wide 4 Try.f4 rfl rfl rfl rfl rfl rfl rfl ⟨rfl, rfl, rfl, rfl, rfl⟩ rfl rfl rfl rfl rfl (by kernel_rfl) Try.func4 (by kernel_rfl)
    (of_decide_eq_true (by kernel_rfl)) (by unfold Func.isWrapper; first | (rw [if_pos (by decide +kernel)]; kernel_rfl) | (rw [if_neg (by decide +kernel)]; exact ⟨rfl, rfl⟩))
    (fun os started H enc _ => lifted os started H enc)
end Go.Proofs.Ytpkogdpgchibdaa.modelReads

namespace Go.Proofs.Ytpkogdpgchibdaa
theorem modelReads_holds : Rows.ModelReadsSaid := modelReads.over
end Go.Proofs.Ytpkogdpgchibdaa
