/- Texts that belong together, part 37. -/
import Derived.Test.YtnmhnjjehglcfaaGreatPack36

/- The walk of the program's valueOf; places of operations. -/
namespace Go.Proofs.YtnmhnjjehglcfaaGreat.Ents
open Go.RowKit Plan HisMath LinMath ModMath CmdMath Rws Env LayMath SrchM
theorem plc_at {q : Bool} {L : List Ev} {i : Nat} {e : Ev} (he : L[i]? = some e) (hq : e.ret = q) (hu : ∀ (j : Nat) (y : Ev), L[j]? = some y → y.ret = q → y.serial = e.serial → j = i) : ∀ n, i < n → n ≤ L.length → plcF q L n e.serial = some (.int .i64 (i : Int))
  | 0, h, _ => absurd h (Nat.not_lt_zero _)
  | n + 1, h, hn => by
    have hy : L[n]? = some L[n] := List.getElem?_eq_getElem (by omega)
    obtain ⟨h1, h2⟩ := plc_next q hy
    by_cases hr : L[n].ret = q
    · rw [h1 hr]
      unfold putF
      by_cases hs : e.serial = L[n].serial
      · rw [if_pos hs, hu n _ hy hr hs.symm]
      · rw [if_neg hs]
        have hin : i ≠ n := fun h9 => by subst h9; rw [he] at hy; rw [← Option.some.inj hy] at hs; exact hs rfl
        exact plc_at he hq hu n (by omega) (by omega)
    · rw [h2 hr]
      have hin : i ≠ n := fun h9 => by subst h9; rw [he] at hy; rw [← Option.some.inj hy] at hr; exact hr hq
      exact plc_at he hq hu n (by omega) (by omega)
theorem plc_inv {L : List Ev} (hR : Right L) {x : Ev} (hx : x ∈ opsE L L.length) : plcF false L L.length x.serial = some (.int .i64 (invI L x.serial)) := by
  obtain ⟨e, he, her, rfl⟩ := (mem_ops hR).1 hx
  rw [(op_cmd L e).2.2.2.1]
  obtain ⟨h1, h2⟩ := hR.inv_at he her
  have h3 := plc_at (q := false) h2 her (fun j y hy hyr hs => hR.one j _ y e hy h2 hyr her hs) L.length (List.getElem?_eq_some_iff.1 h2).1 (Nat.le_refl _)
  rw [h3, Int.toNat_of_nonneg h1]
theorem plc_ret {L : List Ev} (hR : Right L) {x : Ev} (hx : x ∈ opsE L L.length) (hr : x.ret = true) : plcF true L L.length x.serial = some (.int .i64 (retI L x.serial)) := by
  have h0 := (op_inv hR hx).2.2.1.1 hr
  obtain ⟨i, y, hi, hy, hp, _⟩ := seek_is h0
  obtain ⟨hyr, hys⟩ := ret_is hp
  have h3 := plc_at (q := true) hy hyr (fun j z hz hzr hs => right_oneRet hR j i z y hz hy hzr hyr hs) L.length (List.getElem?_eq_some_iff.1 hy).1 (Nat.le_refl _)
  rw [hys] at h3
  rw [h3]
  exact congrArg some (congrArg (Value.int .i64) hi.symm)
set_option maxHeartbeats 8000000 in
set_option maxRecDepth 20000 in
theorem valueOf_any (x : Ev) (w : World) : Calls Tryz.prog 88 #[evV x] w fun r w' => r = .returned (.string (valE x)) ∧ Below w.heap.size w w' := by
  obtain ⟨xr, xq, xs, xk, xb, xd, xe, xx⟩ := x
  have K := (Env.start w).al (.cells #[.bool xr, .int .i64 xq, .int .i64 xs, .int .i64 xk, .int .i64 xb, .string xd, .int .i64 xe, .string xx] 55)
  have HN := Lib.hid (fun W => modelOk.new 1 W)
  rw [show newB 1 = [zeroC] from rfl] at HN
  have HA := Lib.hid (fun W G a n c (h : SList W G a n c [zeroC]) => modelOk.apply G [zeroC] a n c xk xb xd W h (by have := h.length; simp at this; omega))
  have HV := Lib.hid (show valE ⟨xr, xq, xs, xk, xb, xd, xe, xx⟩ = if xk = 1 then xx else (applyB [zeroC] ⟨xk, xb, xd⟩).getD 0 ⟨#[]⟩ from rfl)
  go_enter Tryz.func88, Tryz.ntmps88
  go_upto_region 1 with fail
  generalize w.alloc (.cells #[.bool xr, .int .i64 xq, .int .i64 xs, .int .i64 xk, .int .i64 xb, .string xd, .int .i64 xe, .string xx] 55) = w1 at *
  obtain ⟨c0, c1, c2, c3, c4, c5, c6, c7⟩ := ev_cells (K.get 0 rfl)
  by_cases hk : xk = 1
  · subst hk
    go_wp2_with fail
    go_ret
    exact ⟨rfl, K.hb⟩
  · rw [if_neg hk] at HV
    go_upto_region 3 with fail
    clear c0 c1 c2 c3 c4 c5 c6 c7
    obtain ⟨X, hX⟩ : ∃ X, X = w.heap.size := ⟨_, rfl⟩
    rw [← hX] at K ⊢
    clear hX
    refine Tree.start (fun W => W.cell? ⟨X, 3, none⟩ = some (.int .i64 xk) ∧ W.cell? ⟨X, 4, none⟩ = some (.int .i64 xb) ∧ W.cell? ⟨X, 5, none⟩ = some (.string xd)) (.take 1 (.take 2 (.fork 0 (.fork 3 (.take 4 (.take 5 (.take 6 (.only 7 (.take 8 (.only 9 (.done))))))) 7 (.only 3 (.take 4 (.take 5 (.take 6 (.take 8 (.only 9 (.done)))))))) 7 (.only 0 (.only 3 (.take 4 (.take 5 (.take 6 (.take 8 (.only 9 (.done))))))))))) (by kernel_rfl) (by kernel_rfl) (by kernel_rfl) (by kernel_rfl) ⟨cell_of_row _ _ 3 _ _ _ (K.drew.get 0 rfl), cell_of_row _ _ 4 _ _ _ (K.drew.get 0 rfl), cell_of_row _ _ 5 _ _ _ (K.drew.get 0 rfl)⟩ ?_
    simp only [Tree.T.map, List.getElem?_toArray, List.getElem?_cons_zero, List.getElem?_cons_succ]
    replace K := K.drew
    obtain ⟨wz, hwz⟩ := K.name
    rw [← hwz] at K ⊢
    clear hwz
    repeat (refine Tree.take ?_ (by rfl) ?_ ?_; rotate_left; (· rintro w9 ⟨u3, u4, u5⟩; go_simp; all_goals (with_reducible rfl)); simp only [Act.put, List.setIfInBounds_toArray, List.set_cons_zero, List.set_cons_succ])
    refine Tree.fork (by rfl) (by rfl) ?_ ?_
    · skip
      refine (Tree.wp_call 107 _ ?_ (HN.out _) ?_)
      · go_simp
      rintro e9 w2 ⟨na, nn, nc, rfl, ln, h9⟩
      replace ln := TList.result (F := fun _ => False) K h9 (ln.mono fun b _ hb => .inr (hb.resolve_left id))
      replace K := K.on h9
      refine ⟨_, rfl, ⟨cell_of_row _ _ 3 _ _ _ (K.get 0 rfl), cell_of_row _ _ 4 _ _ _ (K.get 0 rfl), cell_of_row _ _ 5 _ _ _ (K.get 0 rfl)⟩, ?_⟩
      simp only [Act.put, List.setIfInBounds_toArray, List.set_cons_zero, List.set_cons_succ]
      clear h9
      refine Tree.fork (by rfl) (by rfl) ?_ ?_
      · skip
        refine (Tree.wp_call 106 _ ?_ (HA.out _ _ na nn nc ln) ?_)
        · go_simp
        rintro e9 w3 ⟨ra, rn, rc, rfl, lr, h9⟩
        replace lr := TList.result (F := fun _ => False) K h9 lr
        replace K := K.on h9
        refine ⟨_, rfl, ⟨cell_of_row _ _ 3 _ _ _ (K.get 0 rfl), cell_of_row _ _ 4 _ _ _ (K.get 0 rfl), cell_of_row _ _ 5 _ _ _ (K.get 0 rfl)⟩, ?_⟩
        simp only [Act.put, List.setIfInBounds_toArray, List.set_cons_zero, List.set_cons_succ]
        repeat (refine Tree.take ?_ (by rfl) ?_ ?_; rotate_left; (· rintro w9 ⟨u3, u4, u5⟩; go_simp; all_goals (with_reducible rfl)); simp only [Act.put, List.setIfInBounds_toArray, List.set_cons_zero, List.set_cons_succ])
        clear h9 ln
        have K9 := K.al (.cells #[.int .i64 0, .string ⟨#[]⟩] 53)
        refine Tree.only (by rfl) (Tree.wp_make (.pointer (some ⟨w3.heap.size, 0, none⟩)) _ ?_ ⟨⟨cell_of_row _ _ 3 _ _ _ (K9.get 1 rfl), cell_of_row _ _ 4 _ _ _ (K9.get 1 rfl), cell_of_row _ _ 5 _ _ _ (K9.get 1 rfl)⟩, ?_⟩)
        · go_simp
        simp only [Act.put, List.setIfInBounds_toArray, List.set_cons_zero, List.set_cons_succ]
        replace lr := lr.keep (K.keep_al (.cells #[.int .i64 0, .string ⟨#[]⟩] 53))
        clear K
        have K := K9
        clear K9
        obtain ⟨GR, hGR⟩ : ∃ GR, GR = w3.heap.size := ⟨_, rfl⟩
        rw [← hGR] at K ⊢
        (try rw [← hGR] at lr)
        (try rw [← hGR] at ln)
        clear hGR
        repeat (refine Tree.take ?_ (by rfl) ?_ ?_; rotate_left; (· rintro w9 ⟨u3, u4, u5⟩; go_simp; all_goals (with_reducible rfl)); simp only [Act.put, List.setIfInBounds_toArray, List.set_cons_zero, List.set_cons_succ])
        refine Tree.only (by rfl) (K.storeRow 0 rfl 53 (.tmp 4) (.tmp 18) rfl #[.int .i64 (applyR [zeroC] ⟨xk, xb, xd⟩).err, .string (applyR [zeroC] ⟨xk, xb, xd⟩).data] rfl rfl res_info rfl (by simp [Value.oneCell']) ?_)
        intro w5 K5 k5
        simp only [List.set] at K5 k5
        replace lr := lr.keep (k5 (fun _ => False))
        clear k5 K
        refine ⟨⟨cell_of_row _ _ 3 _ _ _ (K5.get 1 rfl), cell_of_row _ _ 4 _ _ _ (K5.get 1 rfl), cell_of_row _ _ 5 _ _ _ (K5.get 1 rfl)⟩, ?_⟩
        simp only [Act.put]
        refine Tree.ends ?_
        have hrl : rn = 1 := by have := lr.length; rw [apply_len] at this; simpa using this.symm
        obtain ⟨xr0, s0, rfl, hs0, cs0⟩ := str_at lr 0 (by omega)
        have hrI : (0 : Int) < (rn : Int) := by omega
        have hrN : 0 < rn := by omega
        rw [show (Addr.add xr0 0) = xr0 from by simp [Addr.add]] at cs0
        have hs9 := Lib.hid hs0
        clear hs0
        go_wp2_with fail
        go_ret
        exact ⟨by rw [HV.out, List.getD_eq_getElem?_getD, hs9.out]; rfl, K5.hb⟩
      · skip
        have K9 := K.al (.cells #[.int .i64 0, .string ⟨#[]⟩] 53)
        refine (Tree.wp_make (.pointer (some ⟨w2.heap.size, 0, none⟩)) _ ?_ ⟨⟨cell_of_row _ _ 3 _ _ _ (K9.get 1 rfl), cell_of_row _ _ 4 _ _ _ (K9.get 1 rfl), cell_of_row _ _ 5 _ _ _ (K9.get 1 rfl)⟩, ?_⟩)
        · go_simp
        simp only [Act.put, List.setIfInBounds_toArray, List.set_cons_zero, List.set_cons_succ]
        replace ln := ln.keep (K.keep_al (.cells #[.int .i64 0, .string ⟨#[]⟩] 53))
        clear K
        have K := K9
        clear K9
        obtain ⟨GR, hGR⟩ : ∃ GR, GR = w2.heap.size := ⟨_, rfl⟩
        rw [← hGR] at K ⊢
        (try rw [← hGR] at lr)
        (try rw [← hGR] at ln)
        clear hGR
        repeat (refine Tree.take ?_ (by rfl) ?_ ?_; rotate_left; (· rintro w9 ⟨u3, u4, u5⟩; go_simp; all_goals (with_reducible rfl)); simp only [Act.put, List.setIfInBounds_toArray, List.set_cons_zero, List.set_cons_succ])
        refine Tree.only (by rfl) (Tree.wp_call 106 _ ?_ (HA.out _ _ na nn nc ln) ?_)
        · go_simp
        rintro e9 w3 ⟨ra, rn, rc, rfl, lr, h9⟩
        replace lr := TList.result (F := fun _ => False) K h9 lr
        replace K := K.on h9
        refine ⟨_, rfl, ⟨cell_of_row _ _ 3 _ _ _ (K.get 1 rfl), cell_of_row _ _ 4 _ _ _ (K.get 1 rfl), cell_of_row _ _ 5 _ _ _ (K.get 1 rfl)⟩, ?_⟩
        simp only [Act.put, List.setIfInBounds_toArray, List.set_cons_zero, List.set_cons_succ]
        repeat (refine Tree.take ?_ (by rfl) ?_ ?_; rotate_left; (· rintro w9 ⟨u3, u4, u5⟩; go_simp; all_goals (with_reducible rfl)); simp only [Act.put, List.setIfInBounds_toArray, List.set_cons_zero, List.set_cons_succ])
        clear h9 ln
        refine Tree.only (by rfl) (K.storeRow 0 rfl 53 (.tmp 4) (.tmp 18) rfl #[.int .i64 (applyR [zeroC] ⟨xk, xb, xd⟩).err, .string (applyR [zeroC] ⟨xk, xb, xd⟩).data] rfl rfl res_info rfl (by simp [Value.oneCell']) ?_)
        intro w5 K5 k5
        simp only [List.set] at K5 k5
        replace lr := lr.keep (k5 (fun _ => False))
        clear k5 K
        refine ⟨⟨cell_of_row _ _ 3 _ _ _ (K5.get 1 rfl), cell_of_row _ _ 4 _ _ _ (K5.get 1 rfl), cell_of_row _ _ 5 _ _ _ (K5.get 1 rfl)⟩, ?_⟩
        simp only [Act.put]
        refine Tree.ends ?_
        have hrl : rn = 1 := by have := lr.length; rw [apply_len] at this; simpa using this.symm
        obtain ⟨xr0, s0, rfl, hs0, cs0⟩ := str_at lr 0 (by omega)
        have hrI : (0 : Int) < (rn : Int) := by omega
        have hrN : 0 < rn := by omega
        rw [show (Addr.add xr0 0) = xr0 from by simp [Addr.add]] at cs0
        have hs9 := Lib.hid hs0
        clear hs0
        go_wp2_with fail
        go_ret
        exact ⟨by rw [HV.out, List.getD_eq_getElem?_getD, hs9.out]; rfl, K5.hb⟩
    · skip
      have K9 := K.al (.cells #[.int .i64 0, .string ⟨#[]⟩] 53)
      refine (Tree.wp_make (.pointer (some ⟨wz.heap.size, 0, none⟩)) _ ?_ ⟨⟨cell_of_row _ _ 3 _ _ _ (K9.get 1 rfl), cell_of_row _ _ 4 _ _ _ (K9.get 1 rfl), cell_of_row _ _ 5 _ _ _ (K9.get 1 rfl)⟩, ?_⟩)
      · go_simp
      simp only [Act.put, List.setIfInBounds_toArray, List.set_cons_zero, List.set_cons_succ]
      clear K
      have K := K9
      clear K9
      obtain ⟨GR, hGR⟩ : ∃ GR, GR = wz.heap.size := ⟨_, rfl⟩
      rw [← hGR] at K ⊢
      (try rw [← hGR] at lr)
      (try rw [← hGR] at ln)
      clear hGR
      repeat (refine Tree.take ?_ (by rfl) ?_ ?_; rotate_left; (· rintro w9 ⟨u3, u4, u5⟩; go_simp; all_goals (with_reducible rfl)); simp only [Act.put, List.setIfInBounds_toArray, List.set_cons_zero, List.set_cons_succ])
      refine Tree.only (by rfl) (Tree.wp_call 107 _ ?_ (HN.out _) ?_)
      · go_simp
      rintro e9 w2 ⟨na, nn, nc, rfl, ln, h9⟩
      replace ln := TList.result (F := fun _ => False) K h9 (ln.mono fun b _ hb => .inr (hb.resolve_left id))
      replace K := K.on h9
      refine ⟨_, rfl, ⟨cell_of_row _ _ 3 _ _ _ (K.get 1 rfl), cell_of_row _ _ 4 _ _ _ (K.get 1 rfl), cell_of_row _ _ 5 _ _ _ (K.get 1 rfl)⟩, ?_⟩
      simp only [Act.put, List.setIfInBounds_toArray, List.set_cons_zero, List.set_cons_succ]
      clear h9
      refine Tree.only (by rfl) (Tree.wp_call 106 _ ?_ (HA.out _ _ na nn nc ln) ?_)
      · go_simp
      rintro e9 w3 ⟨ra, rn, rc, rfl, lr, h9⟩
      replace lr := TList.result (F := fun _ => False) K h9 lr
      replace K := K.on h9
      refine ⟨_, rfl, ⟨cell_of_row _ _ 3 _ _ _ (K.get 1 rfl), cell_of_row _ _ 4 _ _ _ (K.get 1 rfl), cell_of_row _ _ 5 _ _ _ (K.get 1 rfl)⟩, ?_⟩
      simp only [Act.put, List.setIfInBounds_toArray, List.set_cons_zero, List.set_cons_succ]
      repeat (refine Tree.take ?_ (by rfl) ?_ ?_; rotate_left; (· rintro w9 ⟨u3, u4, u5⟩; go_simp; all_goals (with_reducible rfl)); simp only [Act.put, List.setIfInBounds_toArray, List.set_cons_zero, List.set_cons_succ])
      clear h9 ln
      refine Tree.only (by rfl) (K.storeRow 0 rfl 53 (.tmp 4) (.tmp 18) rfl #[.int .i64 (applyR [zeroC] ⟨xk, xb, xd⟩).err, .string (applyR [zeroC] ⟨xk, xb, xd⟩).data] rfl rfl res_info rfl (by simp [Value.oneCell']) ?_)
      intro w5 K5 k5
      simp only [List.set] at K5 k5
      replace lr := lr.keep (k5 (fun _ => False))
      clear k5 K
      refine ⟨⟨cell_of_row _ _ 3 _ _ _ (K5.get 1 rfl), cell_of_row _ _ 4 _ _ _ (K5.get 1 rfl), cell_of_row _ _ 5 _ _ _ (K5.get 1 rfl)⟩, ?_⟩
      simp only [Act.put]
      refine Tree.ends ?_
      have hrl : rn = 1 := by have := lr.length; rw [apply_len] at this; simpa using this.symm
      obtain ⟨xr0, s0, rfl, hs0, cs0⟩ := str_at lr 0 (by omega)
      have hrI : (0 : Int) < (rn : Int) := by omega
      have hrN : 0 < rn := by omega
      rw [show (Addr.add xr0 0) = xr0 from by simp [Addr.add]] at cs0
      have hs9 := Lib.hid hs0
      clear hs0
      go_wp2_with fail
      go_ret
      exact ⟨by rw [HV.out, List.getD_eq_getElem?_getD, hs9.out]; rfl, K5.hb⟩
end Go.Proofs.YtnmhnjjehglcfaaGreat.Ents

/- The walks of the library's IndexFunc, ContainsFunc and DeleteFunc of events. -/
namespace Go.Proofs.YtnmhnjjehglcfaaGreat.Ents
open Go.RowKit Plan HisMath LinMath ModMath CmdMath Rws Env LayMath SrchM
theorem seek_any {p : Ev → Bool} {L : List Ev} : decide (0 ≤ seek p L) = L.any p := by
  cases h : L.any p with
  | true =>
    rw [decide_eq_true_eq]
    rcases Int.lt_or_le (seek p L) 0 with h1 | h1
    · obtain ⟨x, hx, hp⟩ := List.any_eq_true.1 h
      rw [seek_neg.1 h1 x hx] at hp; cases hp
    · exact h1
  | false =>
    rw [decide_eq_false_iff_not]
    intro h1
    obtain ⟨i, y, _, hy, hp, _⟩ := seek_is h1
    rw [List.any_eq_false] at h
    exact h y (List.mem_of_getElem? hy) hp
theorem spliced_take : ∀ (vs xs : List Value) {o m : Nat}, m ≤ o → (spliced xs o vs).take m = xs.take m
  | [], _, _, _, _ => rfl
  | v :: r, xs, o, m, h => by rw [spliced, spliced_take r _ (by omega), List.take_set_of_le h]
/-- what clear leaves of a list of the walk's own, cut ahead of it -/
theorem own_clear {α : Type} {R : Row α} (hR : R.Ok) {w W : World} {T : List Thing} {gg n c m : Nat} {L : List α} (K : Env w W T) (i : Nat) (h : T[i]? = some (Env.lst R (Env.slv gg n c) n L)) (hm : m ≤ n) (vs : List Value) {L' : List α} (hL : L.take m = L') {F : Nat → Prop} :
    Env w (W.setCells gg (m * R.sz) vs) (T.set i (Env.lst R (Env.slv gg m c) m L')) ∧ Keep w F W T (W.setCells gg (m * R.sz) vs) (T.set i (Env.lst R (Env.slv gg m c) m L')) := by
  have hlen := own_len hR K i h
  have hown := owns_spliced vs (m * R.sz) (K.own i h)
  have hnew : (W.setCells gg (m * R.sz) vs).ownsRow w.heap.size R.et R.sz (Env.slv gg m c) m (R.all L') := by
    obtain ⟨_, h2⟩ := hown
    refine ⟨by rw [all_length hR, ← hL, List.length_take, hlen, Nat.min_eq_left hm], ?_⟩
    rcases h2 with ⟨h2, _⟩ | ⟨g', c', cur, h2, h3, h4, h5, h6, h7, h8⟩
    · cases h2
    · cases h2
      refine .inr ⟨gg, c, cur, rfl, h3, h4, Nat.le_trans hm h5, h6, h7, ?_⟩
      have h9 : (cur.toList.take (n * R.sz)).take (m * R.sz) = (spliced (R.all L) (m * R.sz) vs).take (m * R.sz) := by rw [h8]
      rw [List.take_take, Nat.min_eq_left (Nat.mul_le_mul_right _ hm)] at h9
      rw [h9, spliced_take _ _ (Nat.le_refl _), ← hL, all_take hR]
  have hgr := grown_cells gg (m * R.sz) vs W
  exact ⟨K.set hgr i h (fun g' e => e) hnew (fun g' e => .inl e), K.keep_set hgr i h (fun g' e => e) (fun g' e => .inl e)⟩
set_option maxHeartbeats 8000000 in
set_option maxRecDepth 20000 in
theorem impIndex_any (F : Nat → Prop) (L : List Ev) (a : Option Addr) (n c : Nat) (w : World) (hl : VList w F a n c L) :
    Calls Tryz.prog 105 #[.slice a n c, .func (.func 85) #[] #[]] w fun x w' => x = .returned (.int .i64 (seek (fun x => impB 1 x) L)) ∧ Below w.heap.size w w' := by
  have hlen := hl.length
  have hcp := hl.cap
  unfold maxLen at hcp
  have HAT := Lib.hid (fun W (h : Below w.heap.size w W) i (hi : i < n) => ev_at (hl.same h) i hi)
  have HK := Lib.hid (fun e W => stepsF_any e W)
  have HYES := Lib.hid (fun (j : Nat) (e : Ev) (h1 : L[j]? = some e) (h2 : (fun x => impB 1 x) e = true) (h3 : ∀ i x, i < j → L[i]? = some x → (fun x => impB 1 x) x = false) => seek_at h1 h2 h3)
  have HNO := Lib.hid (fun (h : ∀ i x, i < n → L[i]? = some x → (fun x => impB 1 x) x = false) => seek_none (l := L) (by rw [hlen]; exact h))
  clear hl hlen
  go_enter Tryz.func105, Tryz.ntmps105
  go_wp2
  go_loopw [8] (fun x wr => ∃ j : Nat, x = .int .i64 (j : Int) ∧ j ≤ n ∧ RowKit.Hid (∀ i x, i < j → L[i]? = some x → (fun x => impB 1 x) x = false) ∧ Below w.heap.size w wr) (fun x _ => n - (intOf x).toNat)
  case atStart => exact ⟨0, rfl, by omega, Lib.hid (fun i _ hi => absurd hi (Nat.not_lt_zero _)), Below.refl _ _⟩
  case round =>
    obtain ⟨j, rfl, hj, hall, hb⟩ := hrel
    by_cases hlt : j < n
    · obtain ⟨x, e, rfl, he, c0, c1, c2, c3, c4, c5, c6, c7⟩ := HAT.out wr hb j hlt
      have hk := HK.out e wr
      have hjI : (j : Int) < (n : Int) := by omega
      have HE := Lib.hid he
      by_cases hq : (fun x => impB 1 x) e = true
      · have HR := Lib.hid (HYES.out j _ HE.out hq hall.out)
        simp only at hq
        rw [hq] at hk
        clear hq he HE
        obtain ⟨er, eq, es, ek, eb, ed, ee, ex⟩ := e
        simp only at hk c0 c1 c2 c3 c4 c5 c6 c7
        have hk := Lib.hid hk
        go_wp2_with (first
          | (go_at_call 85; ((with_reducible refine hk.out.mono ?_); rintro e9 w1 ⟨rfl, h1⟩)))
        go_ret
        exact ⟨r_i HR.out.symm, hb.trans (h1.mono hb.size)⟩
      · replace hq : (fun x => impB 1 x) e = false := by simpa using hq
        have HN : RowKit.Hid (∀ i x, i < j + 1 → L[i]? = some x → (fun x => impB 1 x) x = false) := Lib.hid (fun i x hi hx => by
          rcases Nat.lt_or_ge i j with h9 | h9
          · exact hall.out i x h9 hx
          · obtain rfl : i = j := by omega
            rw [HE.out] at hx
            cases hx
            exact hq)
        simp only at hq
        rw [hq] at hk
        clear hq he HE
        obtain ⟨er, eq, es, ek, eb, ed, ee, ex⟩ := e
        simp only at hk c0 c1 c2 c3 c4 c5 c6 c7
        have hk := Lib.hid hk
        go_wp2_with (first
          | (go_at_call 85; ((with_reducible refine hk.out.mono ?_); rintro e9 w1 ⟨rfl, h1⟩)))
        go_roundw
        case rel => exact ⟨j + 1, by go_num, by omega, HN, hb.trans (h1.mono hb.size)⟩
        case measure => simp [intOf]; omega
    · obtain rfl : j = n := by omega
      have hjI : ¬ (j : Int) < (j : Int) := by omega
      have HR := Lib.hid (HNO.out hall.out)
      go_wp2_with fail
      go_ret
      exact ⟨r_i HR.out.symm, hb⟩
set_option maxHeartbeats 8000000 in
set_option maxRecDepth 20000 in
theorem nndIndex_any (F : Nat → Prop) (L : List Ev) (a : Option Addr) (n c : Nat) (w : World) (hl : VList w F a n c L) :
    Calls Tryz.prog 105 #[.slice a n c, .func (.func 87) #[] #[]] w fun x w' => x = .returned (.int .i64 (seek (fun x => !needB x) L)) ∧ Below w.heap.size w w' := by
  have hlen := hl.length
  have hcp := hl.cap
  unfold maxLen at hcp
  have HAT := Lib.hid (fun W (h : Below w.heap.size w W) i (hi : i < n) => ev_at (hl.same h) i hi)
  have HK := Lib.hid (fun e W => isNotNeeded_any e W)
  have HYES := Lib.hid (fun (j : Nat) (e : Ev) (h1 : L[j]? = some e) (h2 : (fun x => !needB x) e = true) (h3 : ∀ i x, i < j → L[i]? = some x → (fun x => !needB x) x = false) => seek_at h1 h2 h3)
  have HNO := Lib.hid (fun (h : ∀ i x, i < n → L[i]? = some x → (fun x => !needB x) x = false) => seek_none (l := L) (by rw [hlen]; exact h))
  clear hl hlen
  go_enter Tryz.func105, Tryz.ntmps105
  go_wp2
  go_loopw [8] (fun x wr => ∃ j : Nat, x = .int .i64 (j : Int) ∧ j ≤ n ∧ RowKit.Hid (∀ i x, i < j → L[i]? = some x → (fun x => !needB x) x = false) ∧ Below w.heap.size w wr) (fun x _ => n - (intOf x).toNat)
  case atStart => exact ⟨0, rfl, by omega, Lib.hid (fun i _ hi => absurd hi (Nat.not_lt_zero _)), Below.refl _ _⟩
  case round =>
    obtain ⟨j, rfl, hj, hall, hb⟩ := hrel
    by_cases hlt : j < n
    · obtain ⟨x, e, rfl, he, c0, c1, c2, c3, c4, c5, c6, c7⟩ := HAT.out wr hb j hlt
      have hk := HK.out e wr
      have hjI : (j : Int) < (n : Int) := by omega
      have HE := Lib.hid he
      by_cases hq : (fun x => !needB x) e = true
      · have HR := Lib.hid (HYES.out j _ HE.out hq hall.out)
        simp only at hq
        rw [hq] at hk
        clear hq he HE
        obtain ⟨er, eq, es, ek, eb, ed, ee, ex⟩ := e
        simp only at hk c0 c1 c2 c3 c4 c5 c6 c7
        have hk := Lib.hid hk
        go_wp2_with (first
          | (go_at_call 87; ((with_reducible refine hk.out.mono ?_); rintro e9 w1 ⟨rfl, h1⟩)))
        go_ret
        exact ⟨r_i HR.out.symm, hb.trans (h1.mono hb.size)⟩
      · replace hq : (fun x => !needB x) e = false := by simpa using hq
        have HN : RowKit.Hid (∀ i x, i < j + 1 → L[i]? = some x → (fun x => !needB x) x = false) := Lib.hid (fun i x hi hx => by
          rcases Nat.lt_or_ge i j with h9 | h9
          · exact hall.out i x h9 hx
          · obtain rfl : i = j := by omega
            rw [HE.out] at hx
            cases hx
            exact hq)
        simp only at hq
        rw [hq] at hk
        clear hq he HE
        obtain ⟨er, eq, es, ek, eb, ed, ee, ex⟩ := e
        simp only at hk c0 c1 c2 c3 c4 c5 c6 c7
        have hk := Lib.hid hk
        go_wp2_with (first
          | (go_at_call 87; ((with_reducible refine hk.out.mono ?_); rintro e9 w1 ⟨rfl, h1⟩)))
        go_roundw
        case rel => exact ⟨j + 1, by go_num, by omega, HN, hb.trans (h1.mono hb.size)⟩
        case measure => simp [intOf]; omega
    · obtain rfl : j = n := by omega
      have hjI : ¬ (j : Int) < (j : Int) := by omega
      have HR := Lib.hid (HNO.out hall.out)
      go_wp2_with fail
      go_ret
      exact ⟨r_i HR.out.symm, hb⟩
set_option maxHeartbeats 8000000 in
set_option maxRecDepth 20000 in
theorem impAny_any (F : Nat → Prop) (L : List Ev) (a : Option Addr) (n c : Nat) (w : World) (hl : VList w F a n c L) :
    Calls Tryz.prog 84 #[.slice a n c, .func (.func 85) #[] #[]] w fun x w' => x = .returned (.bool (L.any (impB 1))) ∧ Below w.heap.size w w' := by
  have HI := Lib.hid (impIndex_any F L a n c w hl)
  have HE := Lib.hid (seek_any (p := fun x => impB 1 x) (L := L))
  generalize seek (fun x => impB 1 x) L = z at *
  go_enter Tryz.func84, Tryz.ntmps84
  go_wp2_with (first
    | (go_at_call 105; ((with_reducible refine HI.out.mono ?_); rintro e9 w1 ⟨rfl, h1⟩)))
  go_ret
  exact ⟨ret_b HE.out, h1⟩
theorem run_clear_evs {w : World} {B gg n c q cc : Nat} {L : List Ev} (hown : w.ownsRow B VR.et VR.sz (Env.slv gg n c) n (VR.all L)) (hq : q < n) (ty : TypeId) :
    ∃ vs, (Builtin.clear_ #[23] ty #[.slice (some ⟨gg, q * 8, none⟩) (n - q) cc]).run Tryz.prog w = .ok (.tuple #[]) (w.setCells gg (q * 8) vs) := by
  have hz : (zeroEv.cells).size = 8 := rfl
  have hlen : (Builtin.zeroCells zeroEv.cells (n - q)).toList.length = (n - q) * 8 := by simp [Builtin.zeroCells, hz]
  have hmem : ∀ v ∈ (Builtin.zeroCells zeroEv.cells (n - q)).toList, v.oneCell' = true := by
    intro v hv
    simp only [Builtin.zeroCells, Array.toList_map, List.mem_map] at hv
    obtain ⟨i, _, rfl⟩ := hv
    have h8 : i % (zeroEv.cells).size < 8 := by rw [hz]; exact Nat.mod_lt _ (by decide)
    generalize i % (zeroEv.cells).size = k at h8
    have hk : k = 0 ∨ k = 1 ∨ k = 2 ∨ k = 3 ∨ k = 4 ∨ k = 5 ∨ k = 6 ∨ k = 7 := by omega
    rcases hk with rfl | rfl | rfl | rfl | rfl | rfl | rfl | rfl <;> rfl
  have hL := owns_len vrOk hown
  have hcell : ∀ j, j < (Builtin.zeroCells zeroEv.cells (n - q)).toList.length → (w.cell? ⟨gg, q * 8 + 0 + j, none⟩).isSome = true ∧ w.frozen? ⟨gg, q * 8 + 0 + j, none⟩ = false := by
    intro j hj
    rw [hlen] at hj
    have hth := own_there vrOk hown (k := q + j / 8) (by omega) (j % 8) (Nat.mod_lt _ (by decide))
    rw [show (q + j / 8) * VR.sz + j % 8 = q * 8 + 0 + j by show (q + j / 8) * 8 + j % 8 = q * 8 + 0 + j; omega] at hth
    exact hth
  have hst := run_storeCells_cells (P := Tryz.prog) gg (q * 8) (Builtin.zeroCells zeroEv.cells (n - q)).toList 0 w (fun j hj => (hcell j hj).1) (fun j hj => (hcell j hj).2) hmem
  simp only [Nat.add_zero] at hst
  refine ⟨(Builtin.zeroCells zeroEv.cells (n - q)).toList, ?_⟩
  obtain ⟨m, hm⟩ : ∃ m, n - q = m + 1 := ⟨n - q - 1, by omega⟩
  rw [hm] at hst ⊢
  have hu : ∀ w, (underlying 23).run Tryz.prog w = .ok (.slice 55) w := fun w => run_underlying Tryz.underlying23 w
  simp [Builtin.clear_, hu, hst]
/-- where DeleteFunc stands: what stays of the beginning lies in front, the rest is as it was -/
structure DelM (p : Ev → Bool) (L : List Ev) (j k : Nat) (M : List Ev) : Prop where
  len : M.length = L.length
  front : M.take k = (L.take j).filter p
  cnt : k = ((L.take j).filter p).length
  rest : ∀ r, j ≤ r → M[r]? = L[r]?
  le : k < j
theorem DelM.start {p : Ev → Bool} {L : List Ev} {i : Nat} {e : Ev} (he : L[i]? = some e) (hp : p e = false) (hb : ∀ r x, r < i → L[r]? = some x → p x = true) : DelM p L (i + 1) i L := by
  have h1 : (L.take i).filter p = L.take i := by
    rw [List.filter_eq_self]
    intro x hx
    obtain ⟨r, hr⟩ := List.mem_iff_getElem?.1 hx
    have hri : r < i := by have := (List.getElem?_eq_some_iff.1 hr).1; rw [List.length_take] at this; omega
    rw [List.getElem?_take_of_lt hri] at hr
    exact hb r x hri hr
  have h2 : (L.take (i + 1)).filter p = L.take i := by rw [take_snoc he, List.filter_append, h1]; simp [hp]
  have hil := (List.getElem?_eq_some_iff.1 he).1
  exact ⟨rfl, h2.symm, by rw [h2, List.length_take]; omega, fun r _ => rfl, by omega⟩
theorem DelM.skip {p : Ev → Bool} {L M : List Ev} {j k : Nat} {e : Ev} (h : DelM p L j k M) (he : L[j]? = some e) (hp : p e = false) : DelM p L (j + 1) k M := by
  have h2 : (L.take (j + 1)).filter p = (L.take j).filter p := by rw [take_snoc he, List.filter_append]; simp [hp]
  exact ⟨h.len, by rw [h2]; exact h.front, by rw [h2]; exact h.cnt, fun r hr => h.rest r (by omega), by have := h.le; omega⟩
theorem DelM.put {p : Ev → Bool} {L M : List Ev} {j k : Nat} {e : Ev} (h : DelM p L j k M) (he : L[j]? = some e) (hp : p e = true) : DelM p L (j + 1) (k + 1) (M.set k e) := by
  have h2 : (L.take (j + 1)).filter p = (L.take j).filter p ++ [e] := by rw [take_snoc he, List.filter_append]; simp [hp]
  have hj := (List.getElem?_eq_some_iff.1 he).1
  have hk : k < M.length := by have := h.le; have := h.len; omega
  refine ⟨by rw [List.length_set, h.len], ?_, by rw [h2, List.length_append, ← h.cnt]; rfl, fun r hr => ?_, by have := h.le; omega⟩
  · rw [h2, List.take_succ_eq_append_getElem (by rw [List.length_set]; exact hk), List.take_set_of_le (Nat.le_refl _), h.front, List.getElem_set_self]
  · rw [List.getElem?_set_ne (by have := h.le; omega)]
    exact h.rest r (by omega)
theorem filter_all {p : Ev → Bool} {L : List Ev} (h : ∀ x ∈ L, p x = true) : L.filter p = L := List.filter_eq_self.2 h
set_option maxHeartbeats 8000000 in
set_option maxRecDepth 20000 in
theorem delete_any (L : List Ev) (v : Value) (n : Nat) (w0 w : World) (F : Nat → Prop) (T : List Thing) (K : Env w0 w (Env.lst VR v n L :: T)) (hn : n ≤ 100000) :
    Calls Tryz.prog 86 #[v, .func (.func 87) #[] #[]] w fun r w' => ∃ v', r = .returned v' ∧ Env w0 w' (Env.lst VR v' (L.filter needB).length (L.filter needB) :: T) ∧ Keep w0 F w (Env.lst VR v n L :: T) w' (Env.lst VR v' (L.filter needB).length (L.filter needB) :: T) := by
  have hlen := own_len vrOk K 0 rfl
  obtain ⟨va, vc, rfl, lv⟩ := K.any vrOk 0 rfl
  have hcap := lv.cap
  unfold maxLen at hcap
  have HI := Lib.hid (nndIndex_any _ L va n vc w lv)
  clear lv
  by_cases hall : ∀ x ∈ L, needB x = true
  · have hf := filter_all hall
    rw [hf, hlen]
    have hs : seek (fun x => !needB x) L = -1 := seek_none fun i x hi hx => by rw [hall x (List.mem_of_getElem? hx)]; rfl
    rw [hs] at HI
    clear hs hall hf
    have k := K.keep_refl (F := F)
    go_enter Tryz.func86, Tryz.ntmps86
    go_wp2_with (first
      | (go_at_call 105; ((with_reducible refine HI.out.mono ?_); rintro e9 w1 ⟨rfl, h1⟩; replace k := k.trans (K.keep_on h1); replace K := K.on h1; clear h1)))
    go_ret
    exact ⟨_, rfl, K, k⟩
  · have hs0 : 0 ≤ seek (fun x => !needB x) L := by
      rcases Int.lt_or_le (seek (fun x => !needB x) L) 0 with h | h
      · exact absurd (fun x hx => by have := seek_neg.1 h x hx; simpa using this) hall
      · exact h
    obtain ⟨i, e, hi, he, hp, hb⟩ := seek_is hs0
    have hil := (List.getElem?_eq_some_iff.1 he).1
    have HST := Lib.hid (DelM.start (p := needB) he (by simpa using hp) (fun r x hr hx => by have := hb r x hr hx; simpa using this))
    rw [hi] at HI
    obtain ⟨gg, c9, e9⟩ := K.val vrOk 0 rfl (by omega)
    obtain ⟨rfl, -, rfl⟩ := Value.slice.inj e9
    clear e9 hall hs0 hi he hp hb
    have hiI : ((i : Int) == -1) = false := by simp <;> omega
    have hne : ¬ (i : Int) = -1 := by omega
    have k := K.keep_refl (F := F)
    go_enter Tryz.func86, Tryz.ntmps86
    go_wp2_with (first
      | (go_at_call 105; ((with_reducible refine HI.out.mono ?_); rintro e9 w1 ⟨rfl, h1⟩; replace k := k.trans (K.keep_on h1); replace K := K.on h1; clear h1 HI)))
    go_loopw [5, 6] (fun x5 x6 wr => ∃ (q j : Nat) (M : List Ev), x5 = .int .i64 (q : Int) ∧ x6 = .int .i64 (j : Int) ∧ j ≤ n ∧ RowKit.Hid (DelM needB L j q M) ∧ Env w0 wr (Env.lst VR (Env.slv gg n vc) n M :: T) ∧ Keep w0 F w (Env.lst VR (Env.slv gg n vc) n L :: T) wr (Env.lst VR (Env.slv gg n vc) n M :: T)) (fun _ x6 _ => n - (intOf x6).toNat)
    case atStart => exact ⟨i, i + 1, L, rfl, by go_num, by omega, HST, K, k⟩
    case round =>
      clear K k HST hiI hne
      obtain ⟨q, j, M, rfl, rfl, hj, HM, K, k⟩ := hrel
      by_cases hlt : j < n
      · have hjI : (j : Int) < (n : Int) := by omega
        obtain ⟨e, he⟩ : ∃ e, L[j]? = some e := ⟨_, List.getElem?_eq_getElem (by omega)⟩
        have hme : M[j]? = some e := (HM.out.rest j (Nat.le_refl _)).trans he
        have HC := Lib.hid (isNotNeeded_any e)
        have HS := Lib.hid (fun h => HM.out.skip he h)
        have HP := Lib.hid (fun h => HM.out.put he h)
        have hql : q < n := by have := HM.out.le; omega
        have hqI : (q : Int) < (n : Int) := by omega
        have hjc : j ≤ vc := by omega
        obtain ⟨jr, jq, js, jk, jb, jd, je, jx⟩ := e
        have z0 := (K.ownF vrOk 0 rfl (k := j) (f := 0) hme (u := .bool jr) rfl).1
        have z1 := (K.ownF vrOk 0 rfl (k := j) (f := 1) hme (u := .int .i64 jq) rfl).1
        have z2 := (K.ownF vrOk 0 rfl (k := j) (f := 2) hme (u := .int .i64 js) rfl).1
        have z3 := (K.ownF vrOk 0 rfl (k := j) (f := 3) hme (u := .int .i64 jk) rfl).1
        have z4 := (K.ownF vrOk 0 rfl (k := j) (f := 4) hme (u := .int .i64 jb) rfl).1
        have z5 := (K.ownF vrOk 0 rfl (k := j) (f := 5) hme (u := .string jd) rfl).1
        have z6 := (K.ownF vrOk 0 rfl (k := j) (f := 6) hme (u := .int .i64 je) rfl).1
        have z7 := (K.ownF vrOk 0 rfl (k := j) (f := 7) hme (u := .string jx) rfl).1
        simp only [show VR.sz = 8 from rfl, Nat.add_zero] at z0 z1 z2 z3 z4 z5 z6 z7
        generalize needB ⟨jr, jq, js, jk, jb, jd, je, jx⟩ = y at *
        clear he hme
        go_upto_region 8 with fail
        have k9 := K.keep_al (F := F) (.cells #[.bool jr, .int .i64 jq, .int .i64 js, .int .i64 jk, .int .i64 jb, .string jd, .int .i64 je, .string jx] 55)
        have K9 := K.al (.cells #[.bool jr, .int .i64 jq, .int .i64 js, .int .i64 jk, .int .i64 jb, .string jd, .int .i64 je, .string jx] 55)
        replace k := k.trans k9
        clear k9 K
        have K := K9
        clear K9
        obtain ⟨gx, hg⟩ : ∃ gx, wr.heap.size = gx := ⟨_, rfl⟩
        rw [hg] at K k
        simp only [hg]
        generalize wr.alloc (.cells #[.bool jr, .int .i64 jq, .int .i64 js, .int .i64 jk, .int .i64 jb, .string jd, .int .i64 je, .string jx] 55) = w3 at *
        clear z0 z1 z2 z3 z4 z5 z6 z7 hg
        replace HC := Lib.hid (HC.out w3)
        cases y with
        | true =>
          have HN := Lib.hid (HP.out rfl)
          clear HS HP
          go_wp2_with (first
            | ((with_reducible refine Plan.load_lit 55 (.tmp 7) gx ?_ (K.get 0 rfl) Tryz.underlying55 ?_ ?_ ?_); (· rfl); (· rfl); (· exact ev_info); simp only [Act.put, List.setIfInBounds_toArray, List.set_cons_zero, List.set_cons_succ])
            | (go_at_call 87; ((with_reducible refine HC.out.mono ?_); rintro r9 w2 ⟨rfl, h9⟩; replace k := k.trans (K.keep_on h9); replace K := K.on h9; clear h9))
            | ((with_reducible refine K.idx_store (g := gg) (c := vc) (L := M) vrOk 33 (.tmp 30) (.tmp 31) (.tmp 32) ?_ ?_ 1 ?_ hql ⟨jr, jq, js, jk, jb, jd, je, jx⟩ (q * 8) ?_ ?_ ?_ ?_ ?_); (· rfl); (· rfl); (· rfl); (· rfl); (· go_simp); (· rfl); (· rfl); intro w4 K4 k4; simp only [List.set] at K4 k4; replace k := (k.trans (k4 F)).trans (K4.keep_sub fun _ h => List.mem_cons_of_mem _ h); replace K := K4.tail; clear K4 k4))
          go_roundw
          case rel => exact ⟨q + 1, j + 1, _, by go_num, by go_num, by omega, HN, K, k⟩
          case measure => simp [intOf]; omega
        | false =>
          have HN := Lib.hid (HS.out rfl)
          clear HS HP
          go_wp2_with (first
            | ((with_reducible refine Plan.load_lit 55 (.tmp 7) gx ?_ (K.get 0 rfl) Tryz.underlying55 ?_ ?_ ?_); (· rfl); (· rfl); (· exact ev_info); simp only [Act.put, List.setIfInBounds_toArray, List.set_cons_zero, List.set_cons_succ])
            | (go_at_call 87; ((with_reducible refine HC.out.mono ?_); rintro r9 w2 ⟨rfl, h9⟩; replace k := k.trans (K.keep_on h9); replace K := K.on h9; clear h9)))
          replace k := k.trans (K.keep_sub fun _ h => List.mem_cons_of_mem _ h)
          replace K := K.tail
          go_roundw
          case rel => exact ⟨q, j + 1, _, by go_num, by go_num, by omega, HN, K, k⟩
          case measure => simp [intOf]; omega
      · obtain rfl : j = n := by omega
        have hjI : ¬ (j : Int) < (j : Int) := by omega
        have hqn : q < j := HM.out.le
        have hfl : L.take j = L := List.take_of_length_le (by omega)
        have hcnt := HM.out.cnt
        have hfr := HM.out.front
        rw [hfl] at hcnt hfr
        have HCN := Lib.hid hcnt
        have HFR := Lib.hid hfr
        clear hcnt hfr hfl
        obtain ⟨vs, hcl⟩ := run_clear_evs (cc := vc - q) (K.own 0 rfl) hqn 0
        have hqc : ¬ q = vc := by omega
        have hqI : (q : Int) ≤ (j : Int) := by omega
        have hqv : (q : Int) ≤ (vc : Int) := by omega
        have hqv2 : q ≤ vc := by omega
        obtain ⟨K8, k8⟩ := own_clear vrOk (F := F) K 0 rfl (Nat.le_of_lt hqn) vs HFR.out
        simp only [List.set, show VR.sz = 8 from rfl] at K8 k8
        go_wp2_with fail
        go_ret
        refine ⟨_, rfl, ?_, ?_⟩
        · rw [← HCN.out]; exact K8
        · rw [← HCN.out]; exact k.trans k8
end Go.Proofs.YtnmhnjjehglcfaaGreat.Ents

/- The walk of the program's stepsOf. -/
namespace Go.Proofs.YtnmhnjjehglcfaaGreat.Ents
open Go.RowKit Plan HisMath LinMath ModMath CmdMath Rws Env LayMath SrchM
theorem env_one {w W W' : World} {T : List Thing} {mb : Nat} {f : Int → Option Value} (K : Env w W T) (K2 : Env W W' [imapT mb f]) : Env w W' (imapT mb f :: T) :=
  K.cons K2.hb (imap_holds (K2.at' 0 rfl).1 (Nat.le_trans K.hb.size (((K2.at' 0 rfl).2.1 mb rfl).1))) (fun g hg => by obtain rfl : g = mb := hg; exact ((K2.at' 0 rfl).2.1 g rfl).1)
/-- what stepsOf leaves -/
def StepsPost (v : ByteArray) (L : List Ev) (w : World) (r : Ending) (w' : World) : Prop :=
  ∃ (sa : Option Addr) (sn sc : Nat) (S : List Stp) (b : Bool), r = .returned (.tuple #[.slice sa sn sc, .bool b]) ∧ PList w' (fun x => w.heap.size ≤ x) sa sn sc S ∧ Below w.heap.size w w' ∧
    (b = true → singleB v L = true ∧ One L ∧ S = stepsL L) ∧ (b = false → ¬ (singleB v L = true ∧ ∃ o, linE [v] L o = 0))
theorem steps_no {v : ByteArray} {L : List Ev} {w w' : World} (hb : Below w.heap.size w w') (h : ¬ (singleB v L = true ∧ ∃ o, linE [v] L o = 0)) : StepsPost v L w (.returned (.tuple #[.slice none 0 0, .bool false])) w' :=
  ⟨none, 0, 0, [], false, rfl, TList.nil _ _, hb, fun h => (by cases h), fun _ => h⟩
theorem single_iff {v : ByteArray} {L : List Ev} : singleB v L = true ↔ v.size = 16 ∧ checkE 1 L = 0 ∧ (restE L 0).length = L.length ∧ (opsE L L.length).length ≤ 20 := by
  unfold singleB
  simp only [Bool.and_eq_true, decide_eq_true_eq]
  have h1 : sizesE [v] L = 0 ↔ v.size = 16 ∧ checkE 1 L = 0 := by
    unfold sizesE
    show (if checkE 1 L ≠ 0 then checkE 1 L else if [v].all (fun s => decide (s.size = 16)) then 0 else 2) = 0 ↔ _
    by_cases hc : checkE 1 L = 0
    · rw [if_neg (by omega)]
      by_cases hv : v.size = 16 <;> simp [hv, hc]
    · rw [if_pos hc]
      exact ⟨fun h => absurd h hc, fun h => absurd h.2 hc⟩
  have h2 : restE L 0 = L ↔ (restE L 0).length = L.length := by
    constructor
    · intro h; rw [h]
    · intro h
      unfold restE at h ⊢
      exact List.filter_eq_self.2 (List.length_filter_eq_length_iff.1 h)
  rw [h1, h2, and_assoc, and_assoc]
theorem any_imp {v : ByteArray} {L : List Ev} (hs : singleB v L = true) (h : (opsE L L.length).any (impB 1) = true) : ¬ ∃ o, linE [v] L o = 0 := by
  obtain ⟨x, hx, hi⟩ := List.any_eq_true.1 h
  have h1 := (single_parts hs).1
  exact imp_none (sizes_parts h1).1 h1 hx hi
theorem one_of {v : ByteArray} {L : List Ev} (hs : singleB v L = true) (h : (opsE L L.length).any (impB 1) = false) : One L := by
  obtain ⟨h1, h2, _⟩ := single_parts hs
  obtain ⟨h3, h4, _⟩ := sizes_parts h1
  refine ⟨h3, h4, h2, fun x hx => ?_⟩
  rw [List.any_eq_false] at h
  simpa using h x hx
theorem evs_of {W : World} {gx mb : Nat} {f : Int → Option Value} {xr : Bool} {xq xs xk xb xe : Int} {xd xx : ByteArray} {t : TypeId} {fr : Nat × Nat} (h : W.heap[gx]? = some (.cells #[.bool xr, .int .i64 xq, .int .i64 xs, .int .i64 xk, .int .i64 xb, .string xd, .int .i64 xe, .string xx] t fr)) (hm : IMap W mb f) : W.cell? ⟨gx, 0, none⟩ = some (.bool xr) ∧ W.cell? ⟨gx, 1, none⟩ = some (.int .i64 xq) ∧ W.cell? ⟨gx, 2, none⟩ = some (.int .i64 xs) ∧ W.cell? ⟨gx, 3, none⟩ = some (.int .i64 xk) ∧ W.cell? ⟨gx, 4, none⟩ = some (.int .i64 xb) ∧ W.cell? ⟨gx, 5, none⟩ = some (.string xd) ∧ W.cell? ⟨gx, 6, none⟩ = some (.int .i64 xe) ∧ W.cell? ⟨gx, 7, none⟩ = some (.string xx) ∧ IMap W mb f :=
  ⟨cell_of_row _ _ 0 _ _ _ h, cell_of_row _ _ 1 _ _ _ h, cell_of_row _ _ 2 _ _ _ h, cell_of_row _ _ 3 _ _ _ h, cell_of_row _ _ 4 _ _ _ h, cell_of_row _ _ 5 _ _ _ h, cell_of_row _ _ 6 _ _ _ h, cell_of_row _ _ 7 _ _ _ h, hm⟩
set_option maxHeartbeats 8000000 in
set_option maxRecDepth 20000 in
theorem stepsOf_any (F : Nat → Prop) (v : ByteArray) (L : List Ev) (a : Option Addr) (n c : Nat) (w : World) (hl : VList w F a n c L) (hm : n ≤ 100000) :
    Calls Tryz.prog 53 #[.string v, .slice a n c] w (StepsPost v L w) := by
  have hlen := Lib.hid hl.length
  have hlw := Lib.hid hl
  have HNB := Lib.hid (fun W => isNoBlock_any v W)
  have HCK := Lib.hid (fun W (h : Below w.heap.size w W) => hisCheck_any _ L 1 a n c W (hl.same h))
  have HRS := Lib.hid (fun W (h : Below w.heap.size w W) => hisRestrict_any _ L a n c 0 W (hl.same h) hm)
  have HOP := Lib.hid (fun W (h : Below w.heap.size w W) => hisOpsO_any _ L a n c W (hl.same h) hm)
  unfold VPost at HRS
  unfold OVPost at HOP
  have K := Env.start w
  have hlen2 := hl.length
  clear hl
  go_enter Tryz.func53, Tryz.ntmps53
  go_upto_region 1 with fail
  by_cases h16 : v.size = 16
  · have hd16 : decide (v.size = 16) = true := decide_eq_true h16
    by_cases hc : checkE 1 L = 0
    · have HC0 := Lib.hid hc
      rw [hc] at HCK
      by_cases hrl : (restE L 0).length = L.length
      · have HRL := Lib.hid hrl
        clear hrl hc
        go_upto_region 3 with (first
          | (go_at_call 38; ((with_reducible refine (HNB.out _).mono ?_); rintro r9 w9 ⟨rfl, h9⟩; replace K := K.on h9; clear h9))
          | (go_at_call 36; ((with_reducible refine (HCK.out _ K.hb).mono ?_); rintro r9 w9 ⟨rfl, h9⟩; replace K := K.on h9; clear h9))
          | (go_at_call 79; ((with_reducible refine (HRS.out _ K.hb).mono ?_); rintro r9 w9 ⟨ra, rn, rc, rfl, lr, h9⟩; have hrn := lr.length; replace K := K.on h9; clear h9 lr; have hrlt : rn = n := (by have := HRL.out; omega); have hrI : ¬ (rn : Int) < (n : Int) := (by omega))))
        clear HNB HCK HRS
        go_upto_region 4 with (first
          | (go_at_call 77; ((with_reducible refine (HOP.out _ K.hb).mono ?_); rintro r9 w9 ⟨v9, rfl, ⟨m, ho⟩, h9⟩; replace K := (K.got h9 ho).1; clear h9 ho)))
        have hml := own_len vrOk K 0 rfl
        obtain ⟨oa, oc, rfl, lo⟩ := K.any vrOk 0 rfl
        have HLO := Lib.hid (fun W (h : Below w.heap.size w W) => lo)
        by_cases hm20 : m ≤ 20
        · have hmI : ¬ (20 : Int) < (m : Int) := by omega
          have hmd : decide ((20 : Int) < (m : Int)) = false := decide_eq_false hmI
          have HSG := Lib.hid (show singleB v L = true from single_iff.2 ⟨h16, HC0.out, HRL.out, by rw [hlen.out, hml]; exact hm20⟩)
          have HAN := Lib.hid (impAny_any _ (opsE L n) oa m oc _ lo)
          clear lo HLO HOP
          cases hany : (opsE L n).any (impB 1) with
          | true =>
            rw [hany] at HAN
            have HX := Lib.hid (show ¬ (singleB v L = true ∧ ∃ o, linE [v] L o = 0) from fun h => any_imp HSG.out (by rw [hlen.out]; exact hany) h.2)
            clear hany
            go_wp2_with (first
              | (go_at_call 84; ((with_reducible refine HAN.out.mono ?_); rintro r9 w9 ⟨rfl, h9⟩; replace K := K.on h9; clear h9 HAN)))
            go_ret2
            exact steps_no K.hb HX.out
          | false =>
            rw [hany] at HAN
            have HONE := Lib.hid (one_of HSG.out (by rw [hlen.out]; exact hany))
            clear hany
            go_upto_region 6 with (first
              | (go_at_call 84; ((with_reducible refine HAN.out.mono ?_); rintro r9 w9 ⟨rfl, h9⟩; replace K := K.on h9; clear h9 HAN)))
            clear hmI hmd
            have HPF := Lib.hid (fun W (h : Below w.heap.size w W) => places_any _ L a n c false W (hlw.out.same h) hm)
            have HPT := Lib.hid (fun W (h : Below w.heap.size w W) => places_any _ L a n c true W (hlw.out.same h) hm)
            go_upto_region 7 with (first
              | (go_at_call 49; (first | ((with_reducible refine (HPF.out _ K.hb).mono ?_); rintro r9 w9 ⟨mb1, rfl, K9⟩; replace K := env_one K K9; clear K9 HPF) | ((with_reducible refine (HPT.out _ K.hb).mono ?_); rintro r9 w9 ⟨mb2, rfl, K9⟩; replace K := env_one K K9; clear K9 HPT))))
            replace K := K.perm (perm3' (T := []))
            have HDL := Lib.hid (fun W (K : Env w W [Env.lst VR (.slice oa m oc) m (opsE L n), imapT mb2 (plcF true L n), imapT mb1 (plcF false L n)]) => delete_any (opsE L n) (.slice oa m oc) m w W (fun _ => False) _ K (by omega))
            generalize hN : (opsE L n).filter needB = N at *
            have hNL : N = needL L := (by rw [← hN]; unfold needL; rw [hlen2])
            have HNL := Lib.hid hNL
            have HN20 := Lib.hid (show N.length ≤ 20 from by rw [hNL]; unfold needL; have h9 := (single_iff.1 HSG.out).2.2.2; exact Nat.le_trans (List.length_filter_le _ _) h9)
            clear hN hNL
            go_upto_region 8 with fail
            go_upto_block 0 with (first
              | (go_at_call 86; ((with_reducible refine (HDL.out _ K).mono ?_); rintro r9 w9 ⟨nv9, rfl, K9, -⟩; replace K := K9; clear K9 HDL; obtain ⟨na, nc, rfl, _⟩ := K.any vrOk 0 rfl)))
            have hkl := own_len vrOk K 0 rfl
            replace K := K.nil STR
            have hnl := Lib.hid (show N.length ≤ 20 from HN20.out)
            go_wp2_with fail
            go_loopw [9, 44] (fun x9 x44 wr => ∃ (j : Nat) (u : Value), x44 = .int .i64 (j : Int) ∧ j ≤ N.length ∧ x9 = u ∧ Env w wr [Env.lst STR u j ((N.take j).map (toStp L)), Env.lst VR (.slice na N.length nc) N.length N, imapT mb2 (plcF true L n), imapT mb1 (plcF false L n)]) (fun _ x44 _ => N.length - (intOf x44).toNat)
            case atStart => exact ⟨0, _, rfl, by omega, rfl, K⟩
            case round =>
              clear K
              obtain ⟨j, u, rfl, hj, rfl, K⟩ := hrel
              by_cases hlt : j < N.length
              · have hjI : (j : Int) < (N.length : Int) := by omega
                obtain ⟨gn, cn, en⟩ := K.val vrOk 1 rfl (by omega)
                obtain ⟨rfl, -, rfl⟩ := Value.slice.inj en
                clear en
                obtain ⟨e, he⟩ : ∃ e, N[j]? = some e := ⟨_, List.getElem?_eq_getElem hlt⟩
                have hme := he
                have hop : e ∈ opsE L L.length := (need_op (by rw [← HNL.out]; exact List.mem_of_getElem? he)).1
                have HPL := Lib.hid (show plcF false L n e.serial = some (.int .i64 (invI L e.serial)) from by rw [← hlen2]; exact plc_inv HONE.out.right hop)
                have HPR := Lib.hid (fun hr => (show plcF true L n e.serial = some (.int .i64 (retI L e.serial)) from by rw [← hlen2]; exact plc_ret HONE.out.right hop hr))
                have HNX := Lib.hid (show (N.take (j + 1)).map (toStp L) = (N.take j).map (toStp L) ++ [toStp L e] from by rw [take_snoc he, List.map_append]; rfl)
                have HVO := Lib.hid (fun W => valueOf_any e W)
                have hjn : j ≤ 100000 := by
                  have h1 := hnl.out
                  omega
                have hcp9 := (K.list vrOk 1 rfl).cap
                unfold maxLen at hcp9
                have hjc : j ≤ nc := by omega
                obtain ⟨xr, xq, xs, xk, xb, xd, xe, xx⟩ := e
                simp only [toStp] at HPL HPR HNX
                have z0 := (K.ownF vrOk 1 rfl (k := j) (f := 0) hme (u := .bool xr) rfl).1
                have z1 := (K.ownF vrOk 1 rfl (k := j) (f := 1) hme (u := .int .i64 xq) rfl).1
                have z2 := (K.ownF vrOk 1 rfl (k := j) (f := 2) hme (u := .int .i64 xs) rfl).1
                have z3 := (K.ownF vrOk 1 rfl (k := j) (f := 3) hme (u := .int .i64 xk) rfl).1
                have z4 := (K.ownF vrOk 1 rfl (k := j) (f := 4) hme (u := .int .i64 xb) rfl).1
                have z5 := (K.ownF vrOk 1 rfl (k := j) (f := 5) hme (u := .string xd) rfl).1
                have z6 := (K.ownF vrOk 1 rfl (k := j) (f := 6) hme (u := .int .i64 xe) rfl).1
                have z7 := (K.ownF vrOk 1 rfl (k := j) (f := 7) hme (u := .string xx) rfl).1
                simp only [show VR.sz = 8 from rfl, Nat.add_zero] at z0 z1 z2 z3 z4 z5 z6 z7
                clear he hme hop
                go_upto_region 11 with fail
                replace K := K.al (.cells #[.bool xr, .int .i64 xq, .int .i64 xs, .int .i64 xk, .int .i64 xb, .string xd, .int .i64 xe, .string xx] 55)
                obtain ⟨gx, hg⟩ : ∃ gx, wr.heap.size = gx := ⟨_, rfl⟩
                rw [hg] at K
                simp only [hg]
                generalize wr.alloc (.cells #[.bool xr, .int .i64 xq, .int .i64 xs, .int .i64 xk, .int .i64 xb, .string xd, .int .i64 xe, .string xx] 55) = w3 at *
                clear z0 z1 z2 z3 z4 z5 z6 z7 hg
                refine Tree.start (fun W => W.cell? ⟨gx, 0, none⟩ = some (.bool xr) ∧ W.cell? ⟨gx, 1, none⟩ = some (.int .i64 xq) ∧ W.cell? ⟨gx, 2, none⟩ = some (.int .i64 xs) ∧ W.cell? ⟨gx, 3, none⟩ = some (.int .i64 xk) ∧ W.cell? ⟨gx, 4, none⟩ = some (.int .i64 xb) ∧ W.cell? ⟨gx, 5, none⟩ = some (.string xd) ∧ W.cell? ⟨gx, 6, none⟩ = some (.int .i64 xe) ∧ W.cell? ⟨gx, 7, none⟩ = some (.string xx) ∧ IMap W mb1 (plcF false L n)) (.take 0 (.take 1 (.take 2 (.take 3 (.take 4 (.take 5 (.take 6 (.take 8 (.take 9 (.take 10 (.take 11 (.fork 7 (.take 12 (.only 13 (.only 14 (.done)))) 13 (.only 7 (.take 12 (.only 14 (.done)))))))))))))))) (by kernel_rfl) (by kernel_rfl) (by kernel_rfl) (by kernel_rfl) (evs_of (K.drew.get 0 rfl) (env_mget K.drew 4 rfl)) ?_
                simp only [Tree.T.map, List.getElem?_toArray, List.getElem?_cons_zero, List.getElem?_cons_succ]
                replace K := K.drew
                obtain ⟨w4, hw4⟩ := K.name
                rw [← hw4] at K ⊢
                clear hw4
                repeat (refine Tree.take ?_ (by rfl) ?_ ?_; rotate_left; (· rintro w9 ⟨u0, u1, u2, u3, u4, u5, u6, u7, um⟩; have ul := (imap_look inm_und inm_zero um xs).2; rw [HPL.out] at ul; simp only [Option.getD_some] at ul; go_simp; all_goals (with_reducible rfl)); simp only [Act.put, List.setIfInBounds_toArray, List.set_cons_zero, List.set_cons_succ])
                refine Tree.fork (by rfl) (by rfl) ?_ ?_
                · refine (Tree.wp_call 88 _ ?_ (HVO.out _) ?_)
                  · go_simp
                  rintro e9 w5 ⟨rfl, h9⟩
                  replace K := K.on h9
                  clear h9
                  refine ⟨_, rfl, (evs_of (K.get 0 rfl) (env_mget K 4 rfl)), ?_⟩
                  simp only [Act.put, List.setIfInBounds_toArray, List.set_cons_zero, List.set_cons_succ]
                  repeat (refine Tree.take ?_ (by rfl) ?_ ?_; rotate_left; (· rintro w9 ⟨u0, u1, u2, u3, u4, u5, u6, u7, um⟩; have ul := (imap_look inm_und inm_zero um xs).2; rw [HPL.out] at ul; simp only [Option.getD_some] at ul; go_simp; all_goals (with_reducible rfl)); simp only [Act.put, List.setIfInBounds_toArray, List.set_cons_zero, List.set_cons_succ])
                  have K9 := K.al (.cells #[.int .i64 0, .bool false, .string ⟨#[]⟩, .int .i64 0, .int .i64 0] 94)
                  refine Tree.only (by rfl) (Tree.wp_make (.pointer (some ⟨w5.heap.size, 0, none⟩)) _ ?_ ⟨(evs_of (K9.get 1 rfl) (env_mget K9 5 rfl)), ?_⟩)
                  · go_simp
                  simp only [Act.put, List.setIfInBounds_toArray, List.set_cons_zero, List.set_cons_succ]
                  clear K
                  have K := K9
                  clear K9
                  obtain ⟨gs, hgs⟩ : ∃ gs, gs = w5.heap.size := ⟨_, rfl⟩
                  rw [← hgs] at K ⊢
                  clear hgs
                  refine Tree.only (by rfl) (K.storeRow 0 rfl 94 (.tmp 12) (.tmp 60) rfl #[.int .i64 xs, .bool (xk == 1), .string (valE ⟨xr, xq, xs, xk, xb, xd, xe, xx⟩), .int .i64 (invI L xs), .int .i64 9223372036854775807] rfl rfl stp_info rfl (by simp [Value.oneCell']) ?_)
                  intro w7 K7 _
                  simp only [List.set] at K7
                  refine ⟨(evs_of (K7.get 1 rfl) (env_mget K7 5 rfl)), ?_⟩
                  simp only [Act.put]
                  refine Tree.ends ?_
                  clear K
                  have K := K7
                  clear K7
                  obtain ⟨c0, c1, c2, c3, c4, c5, c6, c7⟩ := ev_cells (K.get 1 rfl)
                  cases xr with
                  | false =>
                    rw [show (xk == 1) = decide (xk = 1) from rfl] at K
                    have KB := K.al (.cells (STR.c ⟨xs, decide (xk = 1), valE ⟨false, xq, xs, xk, xb, xd, xe, xx⟩, invI L xs, 9223372036854775807⟩).toArray STR.et)
                    go_wp2_with (first
                      | ((with_reducible refine Plan.load_lit 94 (.tmp 12) gs ?_ (K.get 0 rfl) Tryz.underlying94 ?_ ?_ ?_); (· rfl); (· rfl); (· exact stp_info); simp only [Act.put, List.setIfInBounds_toArray, List.set_cons_zero, List.set_cons_succ])
                      | (refine KB.apps_one strOk rfl (.tmp 68) (.tmp 70) rfl 3 0 rfl rfl (e := ⟨xs, decide (xk = 1), valE ⟨false, xq, xs, xk, xb, xd, xe, xx⟩, invI L xs, 9223372036854775807⟩) rfl rfl (by omega) ?_; intro g3 c3 w3 K8 _; simp only [List.set] at K8; simp only [Act.put, List.setIfInBounds_toArray, List.set_cons_zero, List.set_cons_succ]; clear KB K))
                    have K9 := K8.sub (T' := [Env.lst STR (Env.slv g3 (j + 1) c3) (j + 1) ((N.take (j + 1)).map (toStp L)), Env.lst VR (.slice (some ⟨gn, 0, none⟩) N.length nc) N.length N, imapT mb2 (plcF true L n), imapT mb1 (plcF false L n)]) [3, 4, 5, 6] (by rw [HNX.out]; rfl) (by simp) (by simp)
                    go_roundw
                    case rel => exact ⟨j + 1, _, by go_num, by omega, rfl, K9⟩
                    case measure => simp [intOf]; omega
                  | true =>
                    have hlk2 := (imap_look inm_und inm_zero (env_mget K 4 rfl) xs).2
                    rw [HPR.out rfl] at hlk2
                    simp only [Option.getD_some] at hlk2
                    have hfS := K.free 0 rfl 4
                    have hcS := cell_of_row _ _ 4 _ _ _ (K.get 0 rfl)
                    go_upto_region 14 with fail
                    have K9 := K.put1 0 rfl 4 (.int .i64 (retI L xs)) (cs' := #[.int .i64 xs, .bool (xk == 1), .string (valE ⟨true, xq, xs, xk, xb, xd, xe, xx⟩), .int .i64 (invI L xs), .int .i64 (retI L xs)]) rfl rfl
                    simp only [List.set] at K9
                    clear K hlk2 hfS hcS c0 c1 c2 c3 c4 c5 c6 c7
                    have K := K9
                    clear K9
                    rw [show (xk == 1) = decide (xk = 1) from rfl] at K
                    obtain ⟨w8, hw8⟩ := K.name
                    rw [← hw8] at K ⊢
                    clear hw8
                    have KB := K.al (.cells (STR.c ⟨xs, decide (xk = 1), valE ⟨true, xq, xs, xk, xb, xd, xe, xx⟩, invI L xs, retI L xs⟩).toArray STR.et)
                    go_wp2_with (first
                      | ((with_reducible refine Plan.load_lit 94 (.tmp 12) gs ?_ (K.get 0 rfl) Tryz.underlying94 ?_ ?_ ?_); (· rfl); (· rfl); (· exact stp_info); simp only [Act.put, List.setIfInBounds_toArray, List.set_cons_zero, List.set_cons_succ])
                      | (refine KB.apps_one strOk rfl (.tmp 68) (.tmp 70) rfl 3 0 rfl rfl (e := ⟨xs, decide (xk = 1), valE ⟨true, xq, xs, xk, xb, xd, xe, xx⟩, invI L xs, retI L xs⟩) rfl rfl (by omega) ?_; intro g3 c3 w3 K8 _; simp only [List.set] at K8; simp only [Act.put, List.setIfInBounds_toArray, List.set_cons_zero, List.set_cons_succ]; clear KB K))
                    have K9 := K8.sub (T' := [Env.lst STR (Env.slv g3 (j + 1) c3) (j + 1) ((N.take (j + 1)).map (toStp L)), Env.lst VR (.slice (some ⟨gn, 0, none⟩) N.length nc) N.length N, imapT mb2 (plcF true L n), imapT mb1 (plcF false L n)]) [3, 4, 5, 6] (by rw [HNX.out]; rfl) (by simp) (by simp)
                    go_roundw
                    case rel => exact ⟨j + 1, _, by go_num, by omega, rfl, K9⟩
                    case measure => simp [intOf]; omega
                · skip
                  have K9 := K.al (.cells #[.int .i64 0, .bool false, .string ⟨#[]⟩, .int .i64 0, .int .i64 0] 94)
                  refine (Tree.wp_make (.pointer (some ⟨w4.heap.size, 0, none⟩)) _ ?_ ⟨(evs_of (K9.get 1 rfl) (env_mget K9 5 rfl)), ?_⟩)
                  · go_simp
                  simp only [Act.put, List.setIfInBounds_toArray, List.set_cons_zero, List.set_cons_succ]
                  clear K
                  have K := K9
                  clear K9
                  obtain ⟨gs, hgs⟩ : ∃ gs, gs = w4.heap.size := ⟨_, rfl⟩
                  rw [← hgs] at K ⊢
                  clear hgs
                  refine Tree.only (by rfl) (Tree.wp_call 88 _ ?_ (HVO.out _) ?_)
                  · go_simp
                  rintro e9 w5 ⟨rfl, h9⟩
                  replace K := K.on h9
                  clear h9
                  refine ⟨_, rfl, (evs_of (K.get 1 rfl) (env_mget K 5 rfl)), ?_⟩
                  simp only [Act.put, List.setIfInBounds_toArray, List.set_cons_zero, List.set_cons_succ]
                  repeat (refine Tree.take ?_ (by rfl) ?_ ?_; rotate_left; (· rintro w9 ⟨u0, u1, u2, u3, u4, u5, u6, u7, um⟩; have ul := (imap_look inm_und inm_zero um xs).2; rw [HPL.out] at ul; simp only [Option.getD_some] at ul; go_simp; all_goals (with_reducible rfl)); simp only [Act.put, List.setIfInBounds_toArray, List.set_cons_zero, List.set_cons_succ])
                  refine Tree.only (by rfl) (K.storeRow 0 rfl 94 (.tmp 12) (.tmp 60) rfl #[.int .i64 xs, .bool (xk == 1), .string (valE ⟨xr, xq, xs, xk, xb, xd, xe, xx⟩), .int .i64 (invI L xs), .int .i64 9223372036854775807] rfl rfl stp_info rfl (by simp [Value.oneCell']) ?_)
                  intro w7 K7 _
                  simp only [List.set] at K7
                  refine ⟨(evs_of (K7.get 1 rfl) (env_mget K7 5 rfl)), ?_⟩
                  simp only [Act.put]
                  refine Tree.ends ?_
                  clear K
                  have K := K7
                  clear K7
                  obtain ⟨c0, c1, c2, c3, c4, c5, c6, c7⟩ := ev_cells (K.get 1 rfl)
                  cases xr with
                  | false =>
                    rw [show (xk == 1) = decide (xk = 1) from rfl] at K
                    have KB := K.al (.cells (STR.c ⟨xs, decide (xk = 1), valE ⟨false, xq, xs, xk, xb, xd, xe, xx⟩, invI L xs, 9223372036854775807⟩).toArray STR.et)
                    go_wp2_with (first
                      | ((with_reducible refine Plan.load_lit 94 (.tmp 12) gs ?_ (K.get 0 rfl) Tryz.underlying94 ?_ ?_ ?_); (· rfl); (· rfl); (· exact stp_info); simp only [Act.put, List.setIfInBounds_toArray, List.set_cons_zero, List.set_cons_succ])
                      | (refine KB.apps_one strOk rfl (.tmp 68) (.tmp 70) rfl 3 0 rfl rfl (e := ⟨xs, decide (xk = 1), valE ⟨false, xq, xs, xk, xb, xd, xe, xx⟩, invI L xs, 9223372036854775807⟩) rfl rfl (by omega) ?_; intro g3 c3 w3 K8 _; simp only [List.set] at K8; simp only [Act.put, List.setIfInBounds_toArray, List.set_cons_zero, List.set_cons_succ]; clear KB K))
                    have K9 := K8.sub (T' := [Env.lst STR (Env.slv g3 (j + 1) c3) (j + 1) ((N.take (j + 1)).map (toStp L)), Env.lst VR (.slice (some ⟨gn, 0, none⟩) N.length nc) N.length N, imapT mb2 (plcF true L n), imapT mb1 (plcF false L n)]) [3, 4, 5, 6] (by rw [HNX.out]; rfl) (by simp) (by simp)
                    go_roundw
                    case rel => exact ⟨j + 1, _, by go_num, by omega, rfl, K9⟩
                    case measure => simp [intOf]; omega
                  | true =>
                    have hlk2 := (imap_look inm_und inm_zero (env_mget K 4 rfl) xs).2
                    rw [HPR.out rfl] at hlk2
                    simp only [Option.getD_some] at hlk2
                    have hfS := K.free 0 rfl 4
                    have hcS := cell_of_row _ _ 4 _ _ _ (K.get 0 rfl)
                    go_upto_region 14 with fail
                    have K9 := K.put1 0 rfl 4 (.int .i64 (retI L xs)) (cs' := #[.int .i64 xs, .bool (xk == 1), .string (valE ⟨true, xq, xs, xk, xb, xd, xe, xx⟩), .int .i64 (invI L xs), .int .i64 (retI L xs)]) rfl rfl
                    simp only [List.set] at K9
                    clear K hlk2 hfS hcS c0 c1 c2 c3 c4 c5 c6 c7
                    have K := K9
                    clear K9
                    rw [show (xk == 1) = decide (xk = 1) from rfl] at K
                    obtain ⟨w8, hw8⟩ := K.name
                    rw [← hw8] at K ⊢
                    clear hw8
                    have KB := K.al (.cells (STR.c ⟨xs, decide (xk = 1), valE ⟨true, xq, xs, xk, xb, xd, xe, xx⟩, invI L xs, retI L xs⟩).toArray STR.et)
                    go_wp2_with (first
                      | ((with_reducible refine Plan.load_lit 94 (.tmp 12) gs ?_ (K.get 0 rfl) Tryz.underlying94 ?_ ?_ ?_); (· rfl); (· rfl); (· exact stp_info); simp only [Act.put, List.setIfInBounds_toArray, List.set_cons_zero, List.set_cons_succ])
                      | (refine KB.apps_one strOk rfl (.tmp 68) (.tmp 70) rfl 3 0 rfl rfl (e := ⟨xs, decide (xk = 1), valE ⟨true, xq, xs, xk, xb, xd, xe, xx⟩, invI L xs, retI L xs⟩) rfl rfl (by omega) ?_; intro g3 c3 w3 K8 _; simp only [List.set] at K8; simp only [Act.put, List.setIfInBounds_toArray, List.set_cons_zero, List.set_cons_succ]; clear KB K))
                    have K9 := K8.sub (T' := [Env.lst STR (Env.slv g3 (j + 1) c3) (j + 1) ((N.take (j + 1)).map (toStp L)), Env.lst VR (.slice (some ⟨gn, 0, none⟩) N.length nc) N.length N, imapT mb2 (plcF true L n), imapT mb1 (plcF false L n)]) [3, 4, 5, 6] (by rw [HNX.out]; rfl) (by simp) (by simp)
                    go_roundw
                    case rel => exact ⟨j + 1, _, by go_num, by omega, rfl, K9⟩
                    case measure => simp [intOf]; omega
              · obtain rfl : j = N.length := by omega
                have hjI : ¬ (N.length : Int) < (N.length : Int) := by omega
                have HTK := Lib.hid (show (N.take N.length).map (toStp L) = stepsL L from by rw [List.take_length, HNL.out]; rfl)
                rw [HTK.out] at K
                go_wp2_with fail
                go_ret2
                obtain ⟨sa, sc, rfl, ls⟩ := K.any strOk 0 rfl
                exact ⟨_, _, _, _, true, rfl, ls, K.hb, fun _ => ⟨HSG.out, HONE.out, rfl⟩, fun h => by cases h⟩
        · have hmI : (20 : Int) < (m : Int) := by omega
          have hmd : decide ((20 : Int) < (m : Int)) = true := decide_eq_true hmI
          have HX := Lib.hid (show ¬ (singleB v L = true ∧ ∃ o, linE [v] L o = 0) from fun h => by
            have h9 := (single_iff.1 h.1).2.2.2
            rw [hlen.out, hml] at h9
            exact hm20 h9)
          clear lo HLO
          go_wp2_with fail
          go_ret2
          exact steps_no K.hb HX.out
      · have HX : RowKit.Hid (¬ (singleB v L = true ∧ ∃ o, linE [v] L o = 0)) := Lib.hid (fun h => hrl (single_iff.1 h.1).2.2.1)
        have hlt : (restE L 0).length < n := by
          have : (restE L 0).length ≤ L.length := List.length_filter_le _ _
          omega
        have HLT := Lib.hid hlt
        clear hrl hlt hc HC0
        go_wp2_with (first
          | (go_at_call 38; ((with_reducible refine (HNB.out _).mono ?_); rintro r9 w9 ⟨rfl, h9⟩; replace K := K.on h9; clear h9))
          | (go_at_call 36; ((with_reducible refine (HCK.out _ K.hb).mono ?_); rintro r9 w9 ⟨rfl, h9⟩; replace K := K.on h9; clear h9))
          | (go_at_call 79; ((with_reducible refine (HRS.out _ K.hb).mono ?_); rintro r9 w9 ⟨ra, rn, rc, rfl, lr, h9⟩; have hrn := lr.length; replace K := K.on h9; clear h9 lr; have hrlt : rn < n := (by have := HLT.out; omega); have hrI : (rn : Int) < (n : Int) := (by omega))))
        go_ret2
        exact steps_no K.hb HX.out
    · have HX : RowKit.Hid (¬ (singleB v L = true ∧ ∃ o, linE [v] L o = 0)) := Lib.hid (fun h => hc (single_iff.1 h.1).2.1)
      generalize checkE 1 L = z at *
      have hzne : (z != 0) = true := by simp [hc]
      go_wp2_with (first
        | (go_at_call 38; ((with_reducible refine (HNB.out _).mono ?_); rintro r9 w9 ⟨rfl, h9⟩; replace K := K.on h9; clear h9))
        | (go_at_call 36; ((with_reducible refine (HCK.out _ K.hb).mono ?_); rintro r9 w9 ⟨rfl, h9⟩; replace K := K.on h9; clear h9)))
      go_ret2
      exact steps_no K.hb HX.out
  · have hd16 : decide (v.size = 16) = false := decide_eq_false h16
    have HX : RowKit.Hid (¬ (singleB v L = true ∧ ∃ o, linE [v] L o = 0)) := Lib.hid (fun h => h16 (single_iff.1 h.1).1)
    go_wp2_with (first
      | (go_at_call 38; ((with_reducible refine (HNB.out _).mono ?_); rintro r9 w9 ⟨rfl, h9⟩; replace K := K.on h9; clear h9)))
    go_ret2
    exact steps_no K.hb HX.out
end Go.Proofs.YtnmhnjjehglcfaaGreat.Ents

/- The walk of the program's Block. -/
namespace Go.Proofs.YtnmhnjjehglcfaaGreat.SrchM
open LinMath HisMath ModMath CmdMath Ents
theorem step_size {L : List Ev} (hO : One L) : ∀ a ∈ stepsL L, a.value.size = 16 := fun a ha => by
  obtain ⟨i, hi⟩ := List.mem_iff_getElem?.1 ha
  obtain ⟨x, hx, rfl⟩ := step_at.1 hi
  have hxm := List.mem_of_getElem? hx
  obtain ⟨h1, h2⟩ := need_op hxm
  show (valE x).size = 16
  by_cases hk : x.kind = 1
  · have hr := need_read h2 hk
    have hm := need_ret h2 hr
    unfold mustP at hm
    rw [Bool.and_eq_true, decide_eq_true_eq] at hm
    have h9 := op_fits hO.right h1 hr
    unfold fitsB at h9
    rw [if_pos hm.2, if_pos hk] at h9
    unfold valE
    rw [if_pos hk]
    exact of_decide_eq_true h9
  · obtain ⟨h3, h4⟩ := need_apply hO hxm zeroC
    rw [if_neg hk] at h3
    have h5 : nextV x zeroC = some (valE x) := next_is.2 ⟨h3, fun hr => h4.2 (fun h => absurd h hk) hr⟩
    exact (next_vals h5).2 rfl
theorem steps_len {v : ByteArray} {L : List Ev} (hs : singleB v L = true) : (stepsL L).length ≤ 20 := by
  unfold stepsL
  rw [List.length_map]
  unfold needL
  exact Nat.le_trans (List.length_filter_le _ _) (single_parts hs).2.2
theorem ser_ops {L : List Ev} {D D' : Nat} {v u : ByteArray} {l : List Nat} (h : Run (stepsL L) D v l D' u) : serO (stepsL L) l = l.map fun i => (opAt L i).serial := by
  unfold serO
  refine List.map_congr_left fun i hi => ?_
  obtain ⟨a, ha⟩ := (h.new.2 i hi).2
  rw [ha]
  obtain ⟨_, rfl⟩ := op_at ha
  rfl
end Go.Proofs.YtnmhnjjehglcfaaGreat.SrchM
namespace Go.Proofs.YtnmhnjjehglcfaaGreat.Ents
open Go.RowKit Plan HisMath LinMath ModMath CmdMath Rws Env LayMath SrchM
set_option maxHeartbeats 8000000 in
set_option maxRecDepth 20000 in
theorem block_any (F : Nat → Prop) (v : ByteArray) (L : List Ev) (a : Option Addr) (n c : Nat) (w : World) (hl : VList w F a n c L) (hm : n ≤ 100000) :
    Calls Tryz.prog 20 #[.string v, .slice a n c] w (BlkPost v L w) := by
  have HS := Lib.hid (stepsOf_any F v L a n c w hl hm)
  have HF := Lib.hid (fun (hsg : singleB v L = true) (hO : One L) W F sa sn sc (ls : PList W F sa sn sc (stepsL L)) => find_any (stepsL L) (steps_ok hO.right (by have := hO.len; omega)) v (by have := (sizes_parts (single_parts hsg).1).2.2.2.2 v List.mem_cons_self; unfold maxLen; omega) (fun a ha => by have := step_size hO a ha; unfold maxLen; omega) sa sn sc (by have := ls.length; have := steps_len hsg; omega) F W ls)
  have hb := Below.refl w.heap.size w
  clear hl
  go_enter Tryz.func20, Tryz.ntmps20
  go_upto_region 2 with (first
    | (go_at_call 53; ((with_reducible refine HS.out.mono ?_); rintro r9 w1 ⟨sa, sn, sc, S, b, rfl, ls, h9, hy, hn⟩; replace hb := hb.trans h9; clear h9 HS)))
  cases b with
  | false =>
    have HN := Lib.hid (hn rfl)
    clear hn hy ls
    go_wp2_with fail
    go_ret2
    exact ⟨none, 0, 0, [], false, rfl, TList.nil _ _, hb, ⟨fun h => (by cases h), fun h => absurd h HN.out⟩, fun h => (by cases h), fun _ => rfl⟩
  | true =>
    obtain ⟨h1, h2, h3⟩ := hy rfl
    subst h3
    have H1 := Lib.hid h1
    have H2 := Lib.hid h2
    have HFI := Lib.hid (HF.out h1 h2 w1 _ sa sn sc ls)
    clear h1 h2 hn hy ls HF
    go_wp2_with (first
      | (go_at_call 54; ((with_reducible refine HFI.out.mono ?_); rintro r9 w2 ⟨la, ln, lc, l, q, rfl, ll, h9, hq1, hq2, hq3⟩)))
    go_ret2
    have hs := (single_parts H1.out).1
    refine ⟨la, ln, lc, serO (stepsL L) l, q, rfl, ll.mono (fun b _ hb' => Nat.le_trans hb.size hb'), hb.trans (h9.mono hb.size), ?_, fun hq => ?_, fun hq => ?_⟩
    · rw [hq1, ← run_exists H2.out hs]
      exact ⟨fun h => ⟨H1.out, h⟩, fun h => h.2⟩
    · obtain ⟨D', u, h1, h2⟩ := hq2 hq
      rw [ser_ops h1]
      exact run_linE H2.out hs h1 h2
    · rw [hq3 hq]; rfl
end Go.Proofs.YtnmhnjjehglcfaaGreat.Ents
