/- ModelRaw: the program's New, Apply and Run answer as the document's own, for any blocks and commands. No condition. -/
import Derived.Test.YtpkogdpgchibdaaPack13
import Derived.Test.YtpkogdpgchibdaaProg
import Derived.Test.YtpkogdpgchibdaaRows
import Derived.Lib.Hide
import Derived.Deep.Cut
import Derived.OpenShut
import Derived.ShutString
import Derived.ChangeArms
import Derived.ProofKit
import Derived.SizedLaws
import Derived.WalkKit
import Derived.KernelRfl
import Derived.SliceStrings
import Derived.ChangeOld
import Derived.Carry
import Derived.Below

/- A list that is written out. -/
namespace Go.Proofs.Ytpkogdpgchibdaa.Rws
open Ents
theorem lit_list {α : Type} {R : Row α} {w : World} {F : Nat → Prop} {g : Nat} {L : List α} {fr : Nat × Nat} (h : w.heap[g]? = some (.cells (R.all L).toArray R.et fr)) (hF : F g) (hn : L.length ≤ maxLen) : TList R w F (some ⟨g, 0, none⟩) L.length L.length L := by
  refine .inr ⟨_, rfl, Nat.le_refl _, hn, rfl, e_lt h, hF, fun j u hu => ?_⟩
  rw [Addr.add_lit, Nat.zero_add]
  exact (cell_of_row w g j _ _ _ h).trans (by rw [List.getElem?_toArray]; exact hu)
end Go.Proofs.Ytpkogdpgchibdaa.Rws
namespace Go.Proofs.Ytpkogdpgchibdaa.Ents
open Go.RowKit Plan Rws
theorem lit_off (x : Addr) (i : Nat) (hi : 0 < i) : x.add i = ⟨x.block, x.off + i, none⟩ := by
  obtain ⟨j, rfl⟩ : ∃ j, i = j + 1 := ⟨i - 1, by omega⟩
  have := ent_add_off x 0 j
  unfold Addr.add
  simp
end Go.Proofs.Ytpkogdpgchibdaa.Ents

/- The walk of the law's sanity check of blocks. -/
namespace Go.Proofs.Ytpkogdpgchibdaa.ModMath
open CmdMath
theorem aw_run (v : ByteArray) (hv : v.size = 16) : runB [zeroC, zeroC] [⟨2, 1, v⟩, ⟨1, 1, ⟨#[]⟩⟩, ⟨1, 2, ⟨#[]⟩⟩] = [zeroC, v] ∧ runR [zeroC, zeroC] [⟨2, 1, v⟩, ⟨1, 1, ⟨#[]⟩⟩, ⟨1, 2, ⟨#[]⟩⟩] = [⟨0, ⟨#[]⟩⟩, ⟨0, v⟩, ⟨1, ⟨#[]⟩⟩] := by
  have e0 : (⟨#[]⟩ : ByteArray).size = 0 := rfl
  have c1 : checkC 2 2 1 16 = 0 := by decide
  have c2 : checkC 2 1 1 0 = 0 := by decide
  have c3 : checkC 2 1 2 0 = 1 := by decide
  constructor
  · simp [runB, applyB, errM, hv, e0, c1, c2, c3]
  · simp [runR, applyR, applyB, errM, hv, e0, c1, c2, c3]
theorem aw_newB : newB 2 = [zeroC, zeroC] := by unfold newB; rw [if_neg (by omega)]; rfl
end Go.Proofs.Ytpkogdpgchibdaa.ModMath
namespace Go.Proofs.Ytpkogdpgchibdaa.Ents
open Go.RowKit Plan ModMath CmdMath Rws Env LayMath
set_option maxHeartbeats 8000000 in
set_option maxRecDepth 20000 in
theorem modAwake_any (H : ModelOk) (w : World) : Calls Try.prog 7 #[] w fun r w' => r = .returned (.bool true) ∧ Below w.heap.size w w' := by
  have H1 := Lib.hid (fun W => H.new 2 W)
  have H2 := Lib.hid (fun W => (show Calls Try.prog 20 #[.int .i64 3] W fun e w' => e = .returned (.string ⟨(valueL 3).toArray⟩) ∧ Below W.heap.size W w' from value_any 3 (by omega) W))
  obtain ⟨v, hv⟩ : ∃ v : ByteArray, v = ⟨(valueL 3).toArray⟩ := ⟨_, rfl⟩
  have hsz : v.size = 16 := by subst hv; simp [ByteArray.size, value_length]
  rw [← hv] at H2
  have H3 := Lib.hid (fun W F F2 a n c b m d (h : SList W F a n c [zeroC, zeroC]) (h2 : CList' W F2 b m d [⟨2, 1, v⟩, ⟨1, 1, ⟨#[]⟩⟩, ⟨1, 2, ⟨#[]⟩⟩]) (h3 : n ≤ 8796093022208 ∧ m ≤ 100000) => H.run F F2 _ _ a b n c m d W h h2 h3.1 h3.2)
  rw [aw_newB] at H1
  rw [(aw_run v hsz).1, (aw_run v hsz).2] at H3
  unfold SPost at H1
  unfold RPost at H3
  have K := Env.start w
  have hm5 : (3 : Nat) ≤ 100000 := by decide
  have hml : (3 : Nat) ≤ maxLen := by unfold maxLen; decide
  clear hv
  go_enter Try.func7, Try.ntmps7
  go_upto_region 4 with (first
    | (go_at_call 13; ((with_reducible refine (H1.out _).mono ?_); rintro r9 w1 ⟨a1, n1, c1, rfl, hx, hb⟩; have l1 := TList.result (F := fun _ => False) K hb (hx.mono (fun b _ h => .inr (h.resolve_left id))); clear hx; replace K := K.on hb; clear hb))
    | (go_at_call 20; ((with_reducible refine (H2.out _).mono ?_); rintro r9 w2 ⟨rfl, hb⟩; replace l1 := l1.keep (K.keep_on hb); replace K := K.on hb; clear hb; have KC := K.al (.cells #[.int .i64 2, .int .i64 1, .string v, .int .i64 1, .int .i64 1, .string ⟨#[]⟩, .int .i64 1, .int .i64 2, .string ⟨#[]⟩] 24); have kC := l1.keep (K.keep_al (.cells #[.int .i64 2, .int .i64 1, .string v, .int .i64 1, .int .i64 1, .string ⟨#[]⟩, .int .i64 1, .int .i64 2, .string ⟨#[]⟩] 24)); have lC : TList CR _ (fun _ => True) _ 3 3 [⟨2, 1, v⟩, ⟨1, 1, ⟨#[]⟩⟩, ⟨1, 2, ⟨#[]⟩⟩] := lit_list (R := CR) (F := fun _ => True) (L := [⟨2, 1, v⟩, ⟨1, 1, ⟨#[]⟩⟩, ⟨1, 2, ⟨#[]⟩⟩]) (KC.get 0 rfl) trivial hml; have hn1 : n1 ≤ 2 := (by have h9 : 2 = n1 := l1.length; omega)))
    | (go_at_call 10; ((with_reducible refine (H3.out _ _ _ _ _ _ _ _ _ kC lC ⟨by omega, hm5⟩).mono ?_); rintro r9 w3 ⟨a3, n3, c3, b3, m3, d3, rfl, hx, hy, hb⟩; have l3 := TList.result KC hb hx; have m9 := TList.result KC hb hy; clear hx hy; replace K := KC.on hb; clear hb KC kC lC l1)))
  have hn3 := l3.length
  have hm3 := m9.length
  obtain rfl : n3 = 2 := hn3.symm
  obtain rfl : m3 = 3 := hm3.symm
  obtain ⟨xa, s1, hxa, hs1, ha1⟩ := str_at l3 1 (by decide)
  obtain rfl : v = s1 := Option.some.inj hs1
  obtain ⟨ya, r1, hya, hr1, hb1⟩ := res_at m9 1 (by decide)
  obtain rfl : (⟨0, v⟩ : Res) = r1 := Option.some.inj hr1
  obtain ⟨yb, r2, hyb, hr2, hb2⟩ := res_at m9 2 (by decide)
  obtain rfl : (⟨1, ⟨#[]⟩⟩ : Res) = r2 := Option.some.inj hr2
  subst hxa hya
  obtain rfl := Option.some.inj hyb
  unfold ResAt at hb1 hb2
  simp only [lit_off _ 1 (by decide), lit_off _ 2 (by decide), lit_off _ 4 (by decide), Nat.one_mul, show 2 * 2 = 4 from rfl] at ha1 hb1 hb2
  clear hyb
  go_wp2_with fail
  go_ret
  exact ⟨rfl, K.hb⟩
end Go.Proofs.Ytpkogdpgchibdaa.Ents

/- The walk of ModelRaw. -/
namespace Go.Proofs.Ytpkogdpgchibdaa.Ents
open Go.RowKit Plan ModMath CmdMath Rws Env LayMath
set_option maxHeartbeats 8000000 in
set_option maxRecDepth 20000 in
theorem modRaw_any (H : ModelOk) (F F2 : Nat → Prop) (nn : Int) (B : List ByteArray) (l : List Cmd) (a b : Option Addr) (n c m d : Nat) (xk xb : Int) (xs : ByteArray) (w : World) (hl : SList w F a n c B) (hk : CList' w F2 b m d l) (hn : n ≤ 8796093022208) :
    Calls Try.prog 3 #[.int .i64 nn, .slice a n c, cmdV xk xb xs, .slice b m d] w fun r w' => r = .returned (.bool true) ∧ Below w.heap.size w w' := by
  have HW := Lib.hid (fun W => modAwake_any H W)
  have HL := Lib.hid (fun W F a n c (h : SList W F a n c B) => modLight_any F B a n c W h)
  have HK := Lib.hid (fun W (h : Below w.heap.size w W) => hk.same h)
  have l0 := hl.rest0.keep ((Env.start w).keep_al (.cells #[.int .i64 xk, .int .i64 xb, .string xs] 24))
  have K := (Env.start w).al (.cells #[.int .i64 xk, .int .i64 xb, .string xs] 24)
  have c2 := (cmd_cells (K.get 0 rfl)).2.2
  have hmm : m ≤ maxLen := Nat.le_trans hk.cap.1 hk.cap.2
  unfold maxLen at hmm
  clear hl hk
  cases hB : lightB B
  · rw [hB] at HL
    clear hB
    go_enter Try.func3, Try.ntmps3
    generalize hw0 : w.alloc (.cells #[.int .i64 xk, .int .i64 xb, .string xs] 24) = w0 at *
    go_wp2_with (first
      | (go_at_call 6; ((with_reducible refine (HL.out _ _ _ _ _ l0).mono ?_); rintro r9 w1 ⟨rfl, hb⟩; replace l0 := l0.keep (K.keep_on hb); replace K := K.on hb; clear hb hw0; obtain ⟨c0, c1, c2⟩ := cmd_cells (K.get 0 rfl)))
      | (go_at_call 7; ((with_reducible refine (HW.out _).mono ?_); rintro r9 w9 ⟨rfl, hb⟩; replace K := K.on hb; clear hb)))
    go_ret
    exact ⟨rfl, K.hb⟩
  rw [hB] at HL
  clear hB
  by_cases hs : 100 < xs.size
  · have t1 : (100 : Int) < (xs.size : Int) := by omega
    have t2 : decide ((100 : Int) < (xs.size : Int)) = true := decide_eq_true t1
    have t3 : decide (100 < xs.size) = true := decide_eq_true hs
    go_enter Try.func3, Try.ntmps3
    generalize hw0 : w.alloc (.cells #[.int .i64 xk, .int .i64 xb, .string xs] 24) = w0 at *
    go_wp2_with (first
      | (go_at_call 6; ((with_reducible refine (HL.out _ _ _ _ _ l0).mono ?_); rintro r9 w1 ⟨rfl, hb⟩; replace l0 := l0.keep (K.keep_on hb); replace K := K.on hb; clear hb hw0; obtain ⟨c0, c1, c2⟩ := cmd_cells (K.get 0 rfl)))
      | (go_at_call 7; ((with_reducible refine (HW.out _).mono ?_); rintro r9 w9 ⟨rfl, hb⟩; replace K := K.on hb; clear hb)))
    go_ret
    exact ⟨rfl, K.hb⟩
  have t1 : ¬ (100 : Int) < (xs.size : Int) := by omega
  have t2 : decide ((100 : Int) < (xs.size : Int)) = false := decide_eq_false t1
  have t3 : decide (100 < xs.size) = false := decide_eq_false hs
  by_cases hm : 40 < m
  · have t4 : (40 : Int) < (m : Int) := by omega
    have t5 : decide ((40 : Int) < (m : Int)) = true := decide_eq_true t4
    have t6 : decide (40 < m) = true := decide_eq_true hm
    go_enter Try.func3, Try.ntmps3
    generalize hw0 : w.alloc (.cells #[.int .i64 xk, .int .i64 xb, .string xs] 24) = w0 at *
    go_wp2_with (first
      | (go_at_call 6; ((with_reducible refine (HL.out _ _ _ _ _ l0).mono ?_); rintro r9 w1 ⟨rfl, hb⟩; replace l0 := l0.keep (K.keep_on hb); replace K := K.on hb; clear hb hw0; obtain ⟨c0, c1, c2⟩ := cmd_cells (K.get 0 rfl)))
      | (go_at_call 7; ((with_reducible refine (HW.out _).mono ?_); rintro r9 w9 ⟨rfl, hb⟩; replace K := K.on hb; clear hb)))
    go_ret
    exact ⟨rfl, K.hb⟩
  have t4 : ¬ (40 : Int) < (m : Int) := by omega
  have t5 : decide ((40 : Int) < (m : Int)) = false := decide_eq_false t4
  have t6 : decide (40 < m) = false := decide_eq_false hm
  have H1 := Lib.hid (fun W F a c (h : SList W F a n c B) => H.apply F B a n c xk xb xs W h hn)
  have H2 := Lib.hid (fun W F a c (h : SList W F a n c B) => refApply_any F B a n c xk xb xs W h hn)
  have H3 := Lib.hid (fun W F F2 a c b d (h : SList W F a n c B) (h2 : CList' W F2 b m d l) => H.run F F2 B l a b n c m d W h h2 hn (by omega))
  have H4 := Lib.hid (fun W F F2 a c b d (h : SList W F a n c B) (h2 : CList' W F2 b m d l) => refRun_any F F2 B l a b n c m d W h h2 hn (by omega))
  have H5 := Lib.hid (fun W => H.new nn W)
  have H6 := Lib.hid (fun W => refBNew_any nn W)
  have HS := Lib.hid (fun W F G L a b n c m k (h1 : SList W F a n c L) (h2 : SList W G b m k L) => refBSame_any F G L a b n c m k W h1 h2)
  unfold APost at H1 H2
  unfold RPost at H3 H4
  unfold SPost at H5 H6
  generalize applyB B ⟨xk, xb, xs⟩ = BA at *
  generalize applyR B ⟨xk, xb, xs⟩ = Z at *
  generalize runB B l = BR at *
  generalize runR B l = RX at *
  generalize newB nn = BN at *
  obtain ⟨ze, zd⟩ := Z
  simp only [resV] at H1 H2
  clear hs hm
  go_enter Try.func3, Try.ntmps3
  generalize hw0 : w.alloc (.cells #[.int .i64 xk, .int .i64 xb, .string xs] 24) = w0 at *
  go_upto_region 9 with (first
    | (go_at_call 6; ((with_reducible refine (HL.out _ _ _ _ _ l0).mono ?_); rintro r9 w1 ⟨rfl, hb⟩; replace l0 := l0.keep (K.keep_on hb); replace K := K.on hb; clear hb hw0; obtain ⟨c0, c1, c2⟩ := cmd_cells (K.get 0 rfl)))
    | ((with_reducible refine Plan.load_lit 24 (.tmp 6) (w.heap.size) ?_ (K.get 0 rfl) Try.underlying24 ?_ ?_ ?_); (· rfl); (· rfl); (· exact cmd_info); simp only [Act.put, List.setIfInBounds_toArray, List.set_cons_zero, List.set_cons_succ])
    | (go_at_call 8; ((with_reducible refine (H1.out _ _ _ _ l0).mono ?_); rintro r9 v1 ⟨a1, n1, c1, rfl, hx, hb⟩; have l1 := TList.result K hb hx; clear hx; replace l0 := l0.keep (K.keep_on hb); replace K := K.on hb; clear hb; have k9 := K.keep_al (F := F) (.cells #[.int .i64 ze, .string zd] 30); replace l0 := l0.keep k9; replace l1 := l1.keep k9; replace K := K.al (.cells #[.int .i64 ze, .string zd] 30); clear k9))
    | ((with_reducible refine Plan.load_lit 24 (.tmp 6) (w.heap.size) ?_ (K.get 1 rfl) Try.underlying24 ?_ ?_ ?_); (· rfl); (· rfl); (· exact cmd_info); simp only [Act.put, List.setIfInBounds_toArray, List.set_cons_zero, List.set_cons_succ])
    | (go_at_call 9; ((with_reducible refine (H2.out _ _ _ _ l0).mono ?_); rintro r9 v2 ⟨a2, n2, c2, rfl, hx, hb⟩; have l2 := TList.result K hb hx; clear hx; replace l0 := l0.keep (K.keep_on hb); replace l1 := l1.keep (K.keep_on hb); replace K := K.on hb; clear hb; have k9 := K.keep_al (F := F) (.cells #[.int .i64 ze, .string zd] 30); replace l0 := l0.keep k9; replace l1 := l1.keep k9; replace l2 := l2.keep k9; replace K := K.al (.cells #[.int .i64 ze, .string zd] 30); clear k9))
    | (go_at_call 10; ((with_reducible refine (H3.out _ _ _ _ _ _ _ l0 (HK.out _ K.hb)).mono ?_); rintro r9 v3 ⟨a3, n3, c3, b3, m3, d3, rfl, hx, hy, hb⟩; have l3 := TList.result K hb hx; have m30 := TList.result K hb hy; clear hx hy; replace l0 := l0.keep (K.keep_on hb); replace l1 := l1.keep (K.keep_on hb); replace l2 := l2.keep (K.keep_on hb); replace K := K.on hb; clear hb))
    | (go_at_call 11; ((with_reducible refine (H4.out _ _ _ _ _ _ _ l0 (HK.out _ K.hb)).mono ?_); rintro r9 v4 ⟨a4, n4, c4, b4, m4, d4, rfl, hx, hy, hb⟩; have l4 := TList.result K hb hx; have m40 := TList.result K hb hy; clear hx hy; replace l0 := l0.keep (K.keep_on hb); replace l1 := l1.keep (K.keep_on hb); replace l2 := l2.keep (K.keep_on hb); replace l3 := l3.keep (K.keep_on hb); replace m30 := m30.keep (K.keep_on hb); replace K := K.on hb; clear hb; obtain rfl : m3 = m4 := m30.length.symm.trans m40.length))
    | ((with_reducible refine Plan.load_lit 30 (.tmp 10) (v1.heap.size) ?_ (K.get 1 rfl) Try.underlying30 ?_ ?_ ?_); (· rfl); (· rfl); (· exact res_info); simp only [Act.put, List.setIfInBounds_toArray, List.set_cons_zero, List.set_cons_succ])
    | ((with_reducible refine Plan.load_lit 30 (.tmp 12) (v2.heap.size) ?_ (K.get 0 rfl) Try.underlying30 ?_ ?_ ?_); (· rfl); (· rfl); (· exact res_info); simp only [Act.put, List.setIfInBounds_toArray, List.set_cons_zero, List.set_cons_succ])
    | (go_at_call 12; ((with_reducible refine (HS.out _ _ _ _ _ _ _ _ _ _ l1 l2).mono ?_); rintro r9 w7 ⟨rfl, hb⟩; replace l3 := l3.keep (K.keep_on hb); replace l4 := l4.keep (K.keep_on hb); replace m30 := m30.keep (K.keep_on hb); replace m40 := m40.keep (K.keep_on hb); replace K := K.on hb; clear hb; clear l1 l2 l0))
    | (go_at_call 12; ((with_reducible refine (HS.out _ _ _ _ _ _ _ _ _ _ l3 l4).mono ?_); rintro r9 w7 ⟨rfl, hb⟩; replace m30 := m30.keep (K.keep_on hb); replace m40 := m40.keep (K.keep_on hb); replace K := K.on hb; clear hb; clear l3 l4))
    | (go_at_call 13; ((with_reducible refine (H5.out _).mono ?_); rintro r9 v5 ⟨a5, n5, c5, rfl, hx, hb⟩; have l5 := TList.result (F := F) K hb (hx.mono (fun b _ h => .inr (h.resolve_left id))); clear hx; replace m30 := m30.keep (K.keep_on hb); replace m40 := m40.keep (K.keep_on hb); replace K := K.on hb; clear hb))
    | (go_at_call 14; ((with_reducible refine (H6.out _).mono ?_); rintro r9 v6 ⟨a6, n6, c6, rfl, hx, hb⟩; have l6 := TList.result (F := F) K hb (hx.mono (fun b _ h => .inr (h.resolve_left id))); clear hx; replace l5 := l5.keep (K.keep_on hb); replace m30 := m30.keep (K.keep_on hb); replace m40 := m40.keep (K.keep_on hb); replace K := K.on hb; clear hb))
    | (go_at_call 12; ((with_reducible refine (HS.out _ _ _ _ _ _ _ _ _ _ l5 l6).mono ?_); rintro r9 w7 ⟨rfl, hb⟩; replace m30 := m30.keep (K.keep_on hb); replace m40 := m40.keep (K.keep_on hb); replace K := K.on hb; clear hb; clear l5 l6)))
  obtain ⟨w8, rfl⟩ := K.name
  have HU := Lib.hid (fun W (h : Below w8.heap.size w8 W) i (hi : i < m3) => res_at (m30.same h) i hi)
  have HV := Lib.hid (fun W (h : Below w8.heap.size w8 W) i (hi : i < m3) => res_at (m40.same h) i hi)
  have hb := Below.refl w8.heap.size w8
  have hm3 : m3 ≤ maxLen := Nat.le_trans m30.cap.1 m30.cap.2
  unfold maxLen at hm3
  have K0 := K.hb
  clear m30 m40 K
  go_wp2_with fail
  go_loopw [17] (fun x wr => ∃ j : Nat, x = .int .i64 (j : Int) ∧ j ≤ m3 ∧ Below w8.heap.size w8 wr) (fun x _ => m3 - (intOf x).toNat)
  case atStart => exact ⟨0, rfl, by omega, hb⟩
  case round =>
    clear hb
    obtain ⟨j, rfl, hj, hb⟩ := hrel
    by_cases hlt : j < m3
    · obtain ⟨x, e, rfl, he, hat⟩ := HU.out wr hb j hlt
      obtain ⟨y, f, rfl, hf, haf⟩ := HV.out wr hb j hlt
      rw [he] at hf
      obtain rfl := Option.some.inj hf
      have hjI : (j : Int) < (m3 : Int) := by omega
      clear hf he
      obtain ⟨ee, ed⟩ := e
      unfold ResAt at hat haf
      simp only at hat haf
      go_upto_region 12 with fail
      refine Plan.start (fun W => (W.cell? (x.add (j * 2)) = some (.int .i64 ee) ∧ W.cell? ⟨(x.add (j * 2)).block, (x.add (j * 2)).off + 1, none⟩ = some (.string ed)) ∧ W.cell? (y.add (j * 2)) = some (.int .i64 ee) ∧ W.cell? ⟨(y.add (j * 2)).block, (y.add (j * 2)).off + 1, none⟩ = some (.string ed)) [(0, true), (1, true), (2, true), (3, true), (4, true), (5, true), (6, true), (7, true), (8, true)] (by kernel_rfl) (by kernel_rfl) (by kernel_rfl) (by kernel_rfl) ⟨hat, haf⟩ ?_
      simp only [List.map_cons, List.map_nil, List.getElem?_toArray, List.getElem?_cons_zero, List.getElem?_cons_succ]
      repeat (first | (refine Plan.take ?_ (by rfl) ?_ ?_; rotate_left; (· rintro w9 ⟨⟨u0, u1⟩, u2, u3⟩; go_simp; (try rw [if_neg (by omega)]); all_goals (with_reducible rfl)); simp only [Act.put, List.setIfInBounds_toArray, List.set_cons_zero, List.set_cons_succ]) | (refine Plan.pass (by rfl) ?_; simp only [Act.put, List.setIfInBounds_toArray, List.set_cons_zero, List.set_cons_succ]))
      refine Plan.ends ?_
      replace hb := hb.drew
      clear hat haf
      go_wp2_with fail
      go_roundw
      case rel => exact ⟨j + 1, by go_num, by omega, hb⟩
      case measure => simp [intOf]; omega
    · obtain rfl : j = m3 := by omega
      have hjI : ¬ (j : Int) < (j : Int) := by omega
      go_wp2_with (first
        | (go_at_call 7; ((with_reducible refine (HW.out _).mono ?_); rintro r9 w9 ⟨rfl, hc⟩; have K9 := K0.trans ((hb.trans (hc.mono hb.size)).mono K0.size))))
      go_ret
      exact ⟨rfl, K9⟩
end Go.Proofs.Ytpkogdpgchibdaa.Ents

/- Rings: what layer 16 of the document says of them. Plain mathematics. -/
namespace Go.Proofs.Ytpkogdpgchibdaa.RingMath
structure Rq where
  serial : Int
  kind : Int
  block : Int
  data : ByteArray
def rq0 : Rq := ⟨0, 0, 0, ⟨#[]⟩⟩
/-- is the item at i as it should be -/
def ascG (L : List Rq) (i : Nat) : Bool :=
  match L[i]? with
  | none => true
  | some x => decide (0 ≤ x.serial) && match i with
    | 0 => true
    | j + 1 => match L[j]? with
      | none => true
      | some y => decide (y.serial < x.serial)
def validG (d : Int) (L : List Rq) : Bool := decide (1 ≤ d) && decide (d ≤ 8) && decide ((L.length : Int) ≤ d) && (List.range L.length).all (ascG L)
def lastG (L : List Rq) : Option Rq := L[L.length - 1]?
def submitE (d : Int) (L : List Rq) (s : Int) : Int :=
  if validG d L = false then 6
  else if (L.length : Int) = d then 13
  else if s < 0 then 17
  else match lastG L with
    | none => 0
    | some y => if s ≤ y.serial then 17 else 0
def submitG (d : Int) (L : List Rq) (x : Rq) : List Rq := if submitE d L x.serial = 0 then L ++ [x] else L
def takeB (d : Int) (L : List Rq) : Bool := validG d L && decide (0 < L.length)
def takeG (d : Int) (L : List Rq) : List Rq := if takeB d L = true then L.drop 1 else L
def takeX (d : Int) (L : List Rq) : Rq := if takeB d L = true then L.getD 0 rq0 else rq0
theorem valid_out {d : Int} {L : List Rq} (h : d < 1 ∨ 8 < d ∨ d < (L.length : Int)) : validG d L = false := by
  unfold validG
  rcases h with h | h | h
  · simp [show ¬ 1 ≤ d by omega]
  · simp [show ¬ d ≤ 8 by omega]
  · simp [show ¬ (L.length : Int) ≤ d by omega]
theorem valid_bad {d : Int} {L : List Rq} {i : Nat} (hi : i < L.length) (h : ascG L i = false) : validG d L = false := by
  unfold validG
  have : (List.range L.length).all (ascG L) = false := by
    rw [List.all_eq_false]
    exact ⟨i, List.mem_range.2 hi, by simp [h]⟩
  rw [this, Bool.and_false]
theorem valid_yes {d : Int} {L : List Rq} (h1 : 1 ≤ d) (h2 : d ≤ 8) (h3 : (L.length : Int) ≤ d) (h : ∀ i, i < L.length → ascG L i = true) : validG d L = true := by
  unfold validG
  rw [decide_eq_true h1, decide_eq_true h2, decide_eq_true h3]
  simp only [Bool.true_and]
  rw [List.all_eq_true]
  exact fun i hi => h i (List.mem_range.1 hi)
theorem valid_len {d : Int} {L : List Rq} (h : validG d L = true) : (1 ≤ d ∧ d ≤ 8) ∧ (L.length : Int) ≤ d := by
  unfold validG at h
  simp only [Bool.and_eq_true, decide_eq_true_eq] at h
  exact ⟨h.1.1, h.1.2⟩
theorem asc_neg {L : List Rq} {i : Nat} {x : Rq} (hx : L[i]? = some x) (h : x.serial < 0) : ascG L i = false := by
  unfold ascG
  rw [hx]
  simp [show ¬ 0 ≤ x.serial by omega]
theorem asc_zero {L : List Rq} {x : Rq} (hx : L[0]? = some x) (h : ¬ x.serial < 0) : ascG L 0 = true := by
  unfold ascG
  rw [hx]
  simp [show 0 ≤ x.serial by omega]
theorem asc_next {L : List Rq} {j : Nat} {x y : Rq} (hx : L[j + 1]? = some x) (hy : L[j]? = some y) (h : ¬ x.serial < 0) : ascG L (j + 1) = decide (y.serial < x.serial) := by
  unfold ascG
  rw [hx]
  simp only [hy]
  rw [decide_eq_true (show 0 ≤ x.serial by omega), Bool.true_and]
end Go.Proofs.Ytpkogdpgchibdaa.RingMath

/- Rings in memory; the walk of the document's Valid. -/
namespace Go.Proofs.Ytpkogdpgchibdaa.Ents
open Go.RowKit Plan RingMath Rws
abbrev rqV (r : Rq) : Value := .agg #[.int .i64 r.serial, .int .i64 r.kind, .int .i64 r.block, .string r.data]
abbrev rgV (d : Int) (a : Option Addr) (n c : Nat) : Value := .agg #[.int .i64 d, .slice a n c]
theorem rg_cells {w : World} {g : Nat} {a b : Value} {t : TypeId} {fr : Nat × Nat} (h : w.heap[g]? = some (.cells #[a, b] t fr)) : w.cell? ⟨g, 0, none⟩ = some a ∧ w.cell? ⟨g, 1, none⟩ = some b := ⟨cell_of_row _ _ 0 _ _ _ h, cell_of_row _ _ 1 _ _ _ h⟩
theorem r_b {a b : Bool} (h : a = b) : Ending.returned (.bool a) = .returned (.bool b) := by rw [h]
end Go.Proofs.Ytpkogdpgchibdaa.Ents

/- Entries, places and lists of entries that come in. -/
namespace Go.Proofs.Ytpkogdpgchibdaa.Ents
open Go.ChangeShapes Go.WideShapes Go.RowKit EntMath
set_option maxRecDepth 20000 in
theorem ent_cells_int : Try.prog.cellsOf 3 = 1 := by kernel_rfl
set_option maxRecDepth 20000 in
theorem ent_some {α : Type} {l : List α} {i n : Nat} (hl : l.length = n) (hi : i < n) : ∃ y, l[i]? = some y := ⟨l[i]'(by omega), List.getElem?_eq_getElem (by omega)⟩
section
variable {H : Type} {enc : TypeId × Value → H} {w : World} {base : Nat} {spare : Nat → Bool} {held : Bool}
set_option maxRecDepth 20000 in
/-- the block of a slice that came in -/
theorem ent_slice_in {w : World} {r : Reach} {b0 : Nat} {u : TypeId} {a : Addr} {len cap : Nat} (h : Cell.okWide Try.prog w r b0 u (.slice (some a) len cap)) : a.block < w.heap.size := by
  have hs : (∃ row cells, w.shape? a.block = some (row, cells)) → a.block < w.heap.size := by
    rintro ⟨row, cells, h⟩
    unfold World.shape? at h
    rcases Nat.lt_or_ge a.block w.heap.size with hl | hl
    · exact hl
    · rw [Array.getElem?_eq_none hl] at h
      cases h
  unfold Cell.okWide at h
  split at h
  all_goals first
    | (rename_i hv; cases hv; done)
    | (rename_i hu hv; cases hv; done)
    | skip
  unfold Cell.ok at h
  split at h
  all_goals first
    | (rename_i hv; cases hv; done)
    | (rename_i hu hv; cases hv; done)
    | exact h.elim
    | skip
  rename_i hv
  cases hv
  obtain ⟨_, _, _, _, row, cells, hsh, _⟩ := h
  exact hs ⟨row, cells, hsh⟩
end
end Go.Proofs.Ytpkogdpgchibdaa.Ents

/- Lists of elements of any type that come in; how long they may be. -/
namespace Go.Proofs.Ytpkogdpgchibdaa.Rws
open Go.ChangeShapes Go.WideShapes Go.RowKit Ents
section
variable {H : Type} {enc : TypeId × Value → H} {w : World} {base : Nat} {spare : Nat → Bool} {held : Bool} {α : Type} {R : Row α}
theorem rows_block {a : Addr} {i k n : Nat} {cs : List Value} (hk : 0 < k) (h : w.cells? n (a.add i) k = some cs) : a.block < w.heap.size := by
  obtain ⟨_, h1, h2⟩ := World.cells?_some h
  have h4 : cs[0]? = some (cs[0]'(by omega)) := List.getElem?_eq_getElem _
  have := World.block_lt_of_cell? w _ ((h2 0 hk).trans h4)
  rwa [ent_add_block, ent_add_block] at this
set_option maxRecDepth 20000 in
theorem trod_rows (hR : R.Ok) (hc : Try.prog.cellsOf R.et = R.sz) (hE : ∀ {fuel : Nat} {cs : List Value} {x : DataW H × List MemPlace}, DataW.trod enc Try.prog w base spare held fuel R.et cs = some x → ∃ e, cs = R.c e)
    (hs : ∀ b, spare b = true) {fuel : Nat} {cs : List Value} {x : DataW H × List MemPlace} (h : DataW.trod enc Try.prog w base spare held fuel R.st cs = some x) : ∃ a len cap L, cs = [.slice a len cap] ∧ TList R w (fun b => b < w.heap.size) a len cap L := by
  rcases DataW.trod_slice hR.und h with ⟨rfl, _⟩ | ⟨a, len, cap, elems, rest, n, _, rfl, _, _, hl, hm, hlen, hel, hsp, _⟩
  · exact ⟨none, 0, 0, [], rfl, .inl ⟨trivial, rfl, rfl, rfl⟩⟩
  rw [hc] at hel hsp
  by_cases hcap : cap = 0
  · subst hcap
    obtain rfl : len = 0 := by omega
    exact ⟨some a, 0, 0, [], rfl, .inl ⟨trivial, rfl, rfl, rfl⟩⟩
  have hblk : a.block < w.heap.size := by
    by_cases h0 : 0 < len
    · obtain ⟨y, hy⟩ := ent_some hlen h0
      have h1 := (hel 0 h0).trans hy
      rw [Option.bind_eq_some_iff] at h1
      obtain ⟨cs, hcs, _⟩ := h1
      exact rows_block hR.pos hcs
    · obtain ⟨hr, hre⟩ := hsp (hs _)
      obtain ⟨y, hy⟩ := ent_some hr (i := 0) (by omega)
      have h1 := (hre 0 (by omega)).trans hy
      rw [Option.bind_eq_some_iff] at h1
      obtain ⟨cs, hcs, _⟩ := h1
      exact rows_block hR.pos hcs
  have each : ∀ i, i < len → ∃ e : α, ∀ j u, (R.c e)[j]? = some u → w.cell? (a.add (i * R.sz + j)) = some u := by
    intro i hi
    obtain ⟨y, hy⟩ := ent_some hlen hi
    have h1 := (hel i hi).trans hy
    rw [Option.bind_eq_some_iff] at h1
    obtain ⟨cs, hcs, ht⟩ := h1
    obtain ⟨e, rfl⟩ := hE ht
    refine ⟨e, fun j u hu => ?_⟩
    obtain ⟨h1, h2⟩ := World.cells?_some hcs
    have hj : j < R.sz := by have := (List.getElem?_eq_some_iff.1 hu).1; rwa [hR.len] at this
    have := (h2.2 j hj).trans hu
    rwa [Addr.add_add] at this
  have build : ∀ n, n ≤ len → ∃ L : List α, L.length = n ∧ ∀ j u, (R.all L)[j]? = some u → w.cell? (a.add j) = some u := by
    intro n
    induction n with
    | zero => intro _; exact ⟨[], rfl, fun j u hu => by simp [Row.all] at hu⟩
    | succ n ih =>
      intro hn
      obtain ⟨L, hL, hall⟩ := ih (by omega)
      obtain ⟨e, he⟩ := each n (by omega)
      refine ⟨L ++ [e], by simp [hL], fun j u hu => ?_⟩
      rw [all_append, all_one] at hu
      rcases Nat.lt_or_ge j (n * R.sz) with hj | hj
      · rw [List.getElem?_append_left (by rw [all_length hR, hL]; exact hj)] at hu
        exact hall j u hu
      · rw [List.getElem?_append_right (by rw [all_length hR, hL]; exact hj), all_length hR, hL] at hu
        have := he (j - n * R.sz) u hu
        rwa [show n * R.sz + (j - n * R.sz) = j by omega] at this
  obtain ⟨L, hL, hall⟩ := build len (Nat.le_refl _)
  exact ⟨some a, len, cap, L, rfl, .inr ⟨a, rfl, hl, hm, hL, hblk, hblk, hall⟩⟩
set_option maxRecDepth 20000 in
theorem rows_len (hR : R.Ok) (hb : Try.prog.bytesOf R.et = R.wide) (hw : 0 < R.wide) {fuel : Nat} {b : Option Addr} {m k : Nat} {x : DataW H × List MemPlace} (h : DataW.trod enc Try.prog w base spare held fuel R.st [.slice b m k] = some x) (hr : ∀ y ∈ x.1.weights Try.prog R.st, y ≤ reachBytes) : m ≤ reachBytes := by
  rcases DataW.trod_slice hR.und h with ⟨hc, _⟩ | ⟨a', len', cap', elems, rest, n', _, hc, hy, _, _, _, hel, _, _, _⟩
  · simp at hc
    rw [hc.2.1]
    exact Nat.zero_le _
  · simp at hc
    obtain ⟨-, rfl, rfl⟩ := hc
    have h1 := hr ((elems.length + rest.length) * R.wide) (by rw [hy]; simp [DataW.weights, hR.und, hb])
    have h2 : elems.length + rest.length ≤ (elems.length + rest.length) * R.wide := Nat.le_mul_of_pos_right _ hw
    omega
end
end Go.Proofs.Ytpkogdpgchibdaa.Rws

/- Requests and rings that come in. -/
namespace Go.Proofs.Ytpkogdpgchibdaa.Ents
open Go.ChangeShapes Go.WideShapes Go.RowKit RingMath Rws
set_option maxRecDepth 20000 in
theorem comd_cells : Try.prog.cellsOf 24 = 3 := by kernel_rfl
set_option maxRecDepth 20000 in
theorem rstr_cells : Try.prog.cellsOf 9 = 1 := by kernel_rfl
section
variable {H : Type} {enc : TypeId × Value → H} {w : World} {base : Nat} {spare : Nat → Bool}
set_option maxRecDepth 20000 in
theorem trod_comd {held : Bool} {fuel : Nat} {cs : List Value} {x : DataW H × List MemPlace} (h : DataW.trod enc Try.prog w base spare held fuel 24 cs = some x) : ∃ (k b : Int) (s : ByteArray), cs = [.int .i64 k, .int .i64 b, .string s] ∧ s.size ≤ maxLen := by
  obtain ⟨xs, n, _, _, hl4, hlen, hg⟩ := DataW.trod_struct Try.underlying24 h
  rw [comd_cells] at hl4
  match cs, hl4 with
  | [x0, x1, x2], _ =>
    have hl : xs.length = 3 := hlen
    obtain ⟨y0, e0⟩ := ent_some hl (i := 0) (by decide)
    obtain ⟨y1, e1⟩ := ent_some hl (i := 1) (by decide)
    obtain ⟨y2, e2⟩ := ent_some hl (i := 2) (by decide)
    have g0 : DataW.trod enc Try.prog w base spare held n 3 (([x0, x1, x2].drop 0).take (Try.prog.cellsOf 3)) = some y0 := (hg 0 _ rfl).trans e0
    rw [ent_cells_int] at g0
    have g1 : DataW.trod enc Try.prog w base spare held n 3 (([x0, x1, x2].drop 1).take (Try.prog.cellsOf 3)) = some y1 := (hg 1 _ rfl).trans e1
    rw [ent_cells_int] at g1
    have g2 : DataW.trod enc Try.prog w base spare held n 9 (([x0, x1, x2].drop 2).take (Try.prog.cellsOf 9)) = some y2 := (hg 2 _ rfl).trans e2
    rw [rstr_cells] at g2
    obtain ⟨k, h0, _⟩ := DataW.trod_int Try.underlying3 g0
    obtain ⟨b, h1, _⟩ := DataW.trod_int Try.underlying3 g1
    obtain ⟨s, h2, _, w2⟩ := DataW.trod_string Try.underlying9 g2
    simp at h0 h1 h2
    exact ⟨k, b, s, by rw [h0, h1, h2], w2⟩
end
end Go.Proofs.Ytpkogdpgchibdaa.Ents

/- Lists of strings and of commands that come in. -/
namespace Go.Proofs.Ytpkogdpgchibdaa.Ents
open Go.ChangeShapes Go.WideShapes Go.RowKit ModMath CmdMath Rws
set_option maxRecDepth 20000 in
theorem mstr_cells : Try.prog.cellsOf SR.et = SR.sz := by kernel_rfl
set_option maxRecDepth 20000 in
theorem mcmd_cells : Try.prog.cellsOf CR.et = CR.sz := by kernel_rfl
set_option maxRecDepth 20000 in
theorem mstr_bytes : Try.prog.bytesOf SR.et = SR.wide := by kernel_rfl
section
variable {H : Type} {enc : TypeId × Value → H} {w : World} {base : Nat} {spare : Nat → Bool}
set_option maxRecDepth 20000 in
theorem rows_wide {held : Bool} {α : Type} {R : Row α} (hR : R.Ok) (hb : Try.prog.bytesOf R.et = R.wide) {fuel : Nat} {b : Option Addr} {m k : Nat} {x : DataW H × List MemPlace} (h : DataW.trod enc Try.prog w base spare held fuel R.st [.slice b m k] = some x) (hr : ∀ y ∈ x.1.weights Try.prog R.st, y ≤ reachBytes) : m * R.wide ≤ reachBytes := by
  rcases DataW.trod_slice hR.und h with ⟨hc, _⟩ | ⟨a', len', cap', elems, rest, n', _, hc, hy, _, _, _, hel, _, _, _⟩
  · simp at hc
    rw [hc.2.1, Nat.zero_mul]
    exact Nat.zero_le _
  · simp at hc
    obtain ⟨-, rfl, rfl⟩ := hc
    have h1 := hr ((elems.length + rest.length) * R.wide) (by rw [hy]; simp [DataW.weights, hR.und, hb])
    have h3 : m ≤ elems.length + rest.length := by omega
    exact Nat.le_trans (Nat.mul_le_mul_right _ h3) h1
set_option maxRecDepth 20000 in
theorem open_strs {r : Reach} {b0 : Nat} {v : Value} {d : DataW H} {p : List MemPlace} (hs : ∀ b, spare b = true)
    (hok : Value.okWide Try.prog w r b0 22 v) (h : DataW.Trod enc Try.prog w base spare true 22 v d p) :
    ∃ (a : Option Addr) (n c : Nat) (L : List ByteArray), v = .slice a n c ∧ SList w (fun b => b < w.heap.size) a n c L := by
  obtain ⟨a, n, c, rfl⟩ := okWide_slice Try.underlying22 hok
  obtain ⟨fuel, hf⟩ := h
  obtain ⟨b, m, k, L, e, h2⟩ := trod_rows srOk mstr_cells (fun h => by
    obtain ⟨s, h2, _, w2⟩ := DataW.trod_string Try.underlying9 h
    exact ⟨s, show _ = [Value.string s] by simpa using h2⟩) hs hf
  simp [Value.cells] at e
  obtain ⟨rfl, rfl, rfl⟩ := e
  exact ⟨_, _, _, L, rfl, h2⟩
set_option maxRecDepth 20000 in
theorem open_cmds {r : Reach} {b0 : Nat} {v : Value} {d : DataW H} {p : List MemPlace} (hs : ∀ b, spare b = true)
    (hok : Value.okWide Try.prog w r b0 25 v) (h : DataW.Trod enc Try.prog w base spare true 25 v d p) :
    ∃ (a : Option Addr) (n c : Nat) (L : List Cmd), v = .slice a n c ∧ CList' w (fun b => b < w.heap.size) a n c L := by
  obtain ⟨a, n, c, rfl⟩ := okWide_slice Try.underlying25 hok
  obtain ⟨fuel, hf⟩ := h
  obtain ⟨b, m, k, L, e, h2⟩ := trod_rows crOk mcmd_cells (fun h => by
    obtain ⟨k, b, s, h2, w2⟩ := trod_comd h
    exact ⟨⟨k, b, s⟩, h2⟩) hs hf
  simp [Value.cells] at e
  obtain ⟨rfl, rfl, rfl⟩ := e
  exact ⟨_, _, _, L, rfl, h2⟩
set_option maxRecDepth 20000 in
theorem strs_len {held : Bool} {a : Option Addr} {n c : Nat} {dd : DataW H} {p : List MemPlace} (h : DataW.Trod enc Try.prog w base spare held 22 (.slice a n c) dd p)
    (hr : ∀ y ∈ dd.weights Try.prog 22, y ≤ reachBytes) : n ≤ 8796093022208 := by
  obtain ⟨fuel, hf⟩ := h
  have h1 := rows_wide srOk mstr_bytes hf hr
  have h2 := reachBytes_lt
  rw [show SR.wide = 16 from rfl] at h1
  omega
end
end Go.Proofs.Ytpkogdpgchibdaa.Ents

/- A configuration that comes in: its six fields; six numbers in an array. -/
namespace Go.Proofs.Ytpkogdpgchibdaa
open Go.ChangeShapes Go.WideShapes Go.RowKit

theorem lay_cells_int : Try.prog.cellsOf 3 = 1 := by kernel_rfl
theorem lay_cells_conf : Try.prog.cellsOf 52 = 6 := by kernel_rfl
theorem lay_some {α : Type} {l : List α} {i n : Nat} (hl : l.length = n) (hi : i < n) : ∃ y, l[i]? = some y := ⟨l[i]'(by omega), List.getElem?_eq_getElem (by omega)⟩
theorem lay_wide_array {P : Program} {w : World} {r : Reach} {b0 n : Nat} {t e : TypeId} {v : Value} (ht : P.underlying t = some (.array n e)) (h : Value.okWide P w r b0 t v) : ∃ cs, v = .agg cs ∧ cs.size = P.cellsOf t := by
  simp only [Value.okWide, ht] at h
  obtain ⟨cs, h1, h2, _⟩ := h
  exact ⟨cs, h1, h2⟩
theorem open_conf {H : Type} {enc : TypeId × Value → H} {w : World} {base : Nat} {spare : Nat → Bool} {held : Bool} {r : Reach} {b0 : Nat} {v : Value} {d : DataW H} {p : List MemPlace}
    (hok : Value.okWide Try.prog w r b0 52 v) (h : DataW.Trod enc Try.prog w base spare held 52 v d p) :
    ∃ n0 n1 n2 n3 n4 n5 : Int, v = .agg #[.int .i64 n0, .int .i64 n1, .int .i64 n2, .int .i64 n3, .int .i64 n4, .int .i64 n5] := by
  obtain ⟨cs, rfl, hsz⟩ := okWide_struct Try.underlying52 hok
  obtain ⟨l⟩ := cs
  match l, hsz.trans lay_cells_conf with
  | [x0, x1, x2, x3, x4, x5], _ =>
    obtain ⟨fuel, hf⟩ := h
    obtain ⟨xs, n, _, _, _, hlen, hg⟩ := DataW.trod_struct Try.underlying52 hf
    have hl : xs.length = 6 := hlen
    obtain ⟨y0, e0⟩ := lay_some hl (i := 0) (by decide)
    obtain ⟨y1, e1⟩ := lay_some hl (i := 1) (by decide)
    obtain ⟨y2, e2⟩ := lay_some hl (i := 2) (by decide)
    obtain ⟨y3, e3⟩ := lay_some hl (i := 3) (by decide)
    obtain ⟨y4, e4⟩ := lay_some hl (i := 4) (by decide)
    obtain ⟨y5, e5⟩ := lay_some hl (i := 5) (by decide)
    have g0 : DataW.trod enc Try.prog w base spare held n 3 (([x0, x1, x2, x3, x4, x5].drop 0).take (Try.prog.cellsOf 3)) = some y0 := (hg 0 _ rfl).trans e0
    rw [lay_cells_int] at g0
    have g1 : DataW.trod enc Try.prog w base spare held n 3 (([x0, x1, x2, x3, x4, x5].drop 1).take (Try.prog.cellsOf 3)) = some y1 := (hg 1 _ rfl).trans e1
    rw [lay_cells_int] at g1
    have g2 : DataW.trod enc Try.prog w base spare held n 3 (([x0, x1, x2, x3, x4, x5].drop 2).take (Try.prog.cellsOf 3)) = some y2 := (hg 2 _ rfl).trans e2
    rw [lay_cells_int] at g2
    have g3 : DataW.trod enc Try.prog w base spare held n 3 (([x0, x1, x2, x3, x4, x5].drop 3).take (Try.prog.cellsOf 3)) = some y3 := (hg 3 _ rfl).trans e3
    rw [lay_cells_int] at g3
    have g4 : DataW.trod enc Try.prog w base spare held n 3 (([x0, x1, x2, x3, x4, x5].drop 4).take (Try.prog.cellsOf 3)) = some y4 := (hg 4 _ rfl).trans e4
    rw [lay_cells_int] at g4
    have g5 : DataW.trod enc Try.prog w base spare held n 3 (([x0, x1, x2, x3, x4, x5].drop 5).take (Try.prog.cellsOf 3)) = some y5 := (hg 5 _ rfl).trans e5
    rw [lay_cells_int] at g5
    obtain ⟨k0, h0, _⟩ := DataW.trod_int Try.underlying3 g0
    obtain ⟨k1, h1, _⟩ := DataW.trod_int Try.underlying3 g1
    obtain ⟨k2, h2, _⟩ := DataW.trod_int Try.underlying3 g2
    obtain ⟨k3, h3, _⟩ := DataW.trod_int Try.underlying3 g3
    obtain ⟨k4, h4, _⟩ := DataW.trod_int Try.underlying3 g4
    obtain ⟨k5, h5, _⟩ := DataW.trod_int Try.underlying3 g5
    simp at h0 h1 h2 h3 h4 h5
    exact ⟨k0, k1, k2, k3, k4, k5, by rw [h0, h1, h2, h3, h4, h5]⟩
end Go.Proofs.Ytpkogdpgchibdaa

/- A command that comes in: its three fields; a configuration with the bounds of its number of blocks. -/
namespace Go.Proofs.Ytpkogdpgchibdaa
open Go.ChangeShapes Go.WideShapes Go.RowKit
theorem cells_strC : Try.prog.cellsOf 9 = 1 := by kernel_rfl
theorem cells_cmd : Try.prog.cellsOf 24 = 3 := by kernel_rfl
theorem open_cmd {H : Type} {enc : TypeId × Value → H} {w : World} {base : Nat} {spare : Nat → Bool} {held : Bool} {r : Reach} {b0 : Nat} {v : Value} {d : DataW H} {p : List MemPlace}
    (hok : Value.okWide Try.prog w r b0 24 v) (h : DataW.Trod enc Try.prog w base spare held 24 v d p) :
    ∃ (k b : Int) (s : ByteArray), v = .agg #[.int .i64 k, .int .i64 b, .string s] ∧ s.size ≤ maxLen := by
  obtain ⟨cs, rfl, hsz⟩ := okWide_struct Try.underlying24 hok
  obtain ⟨l⟩ := cs
  match l, hsz.trans cells_cmd with
  | [x0, x1, x2], _ =>
    obtain ⟨fuel, hf⟩ := h
    obtain ⟨xs, n, _, _, _, hlen, hg⟩ := DataW.trod_struct Try.underlying24 hf
    have hl : xs.length = 3 := hlen
    obtain ⟨y0, e0⟩ := lay_some hl (i := 0) (by decide)
    obtain ⟨y1, e1⟩ := lay_some hl (i := 1) (by decide)
    obtain ⟨y2, e2⟩ := lay_some hl (i := 2) (by decide)
    have g0 : DataW.trod enc Try.prog w base spare held n 3 (([x0, x1, x2].drop 0).take (Try.prog.cellsOf 3)) = some y0 := (hg 0 _ rfl).trans e0
    rw [lay_cells_int] at g0
    have g1 : DataW.trod enc Try.prog w base spare held n 3 (([x0, x1, x2].drop 1).take (Try.prog.cellsOf 3)) = some y1 := (hg 1 _ rfl).trans e1
    rw [lay_cells_int] at g1
    have g2 : DataW.trod enc Try.prog w base spare held n 9 (([x0, x1, x2].drop 2).take (Try.prog.cellsOf 9)) = some y2 := (hg 2 _ rfl).trans e2
    rw [cells_strC] at g2
    obtain ⟨k, h0, _⟩ := DataW.trod_int Try.underlying3 g0
    obtain ⟨b, h1, _⟩ := DataW.trod_int Try.underlying3 g1
    obtain ⟨s, h2, _, w2⟩ := DataW.trod_string Try.underlying9 g2
    simp at h0 h1 h2
    exact ⟨k, b, s, by rw [h0, h1, h2], w2⟩
theorem open_confw {H : Type} {enc : TypeId × Value → H} {w : World} {base : Nat} {spare : Nat → Bool} {held : Bool} {r : Reach} {b0 : Nat} {v : Value} {d : DataW H} {p : List MemPlace}
    (hok : Value.okWide Try.prog w r b0 52 v) (h : DataW.Trod enc Try.prog w base spare held 52 v d p) :
    ∃ n0 n1 n2 n3 n4 n5 : Int, v = .agg #[.int .i64 n0, .int .i64 n1, .int .i64 n2, .int .i64 n3, .int .i64 n4, .int .i64 n5] ∧ (Lit.int .i64 n2).wf = true := by
  obtain ⟨cs, rfl, hsz⟩ := okWide_struct Try.underlying52 hok
  obtain ⟨l⟩ := cs
  match l, hsz.trans lay_cells_conf with
  | [x0, x1, x2, x3, x4, x5], _ =>
    obtain ⟨fuel, hf⟩ := h
    obtain ⟨xs, n, _, _, _, hlen, hg⟩ := DataW.trod_struct Try.underlying52 hf
    have hl : xs.length = 6 := hlen
    obtain ⟨y0, e0⟩ := lay_some hl (i := 0) (by decide)
    obtain ⟨y1, e1⟩ := lay_some hl (i := 1) (by decide)
    obtain ⟨y2, e2⟩ := lay_some hl (i := 2) (by decide)
    obtain ⟨y3, e3⟩ := lay_some hl (i := 3) (by decide)
    obtain ⟨y4, e4⟩ := lay_some hl (i := 4) (by decide)
    obtain ⟨y5, e5⟩ := lay_some hl (i := 5) (by decide)
    have g0 : DataW.trod enc Try.prog w base spare held n 3 (([x0, x1, x2, x3, x4, x5].drop 0).take (Try.prog.cellsOf 3)) = some y0 := (hg 0 _ rfl).trans e0
    rw [lay_cells_int] at g0
    have g1 : DataW.trod enc Try.prog w base spare held n 3 (([x0, x1, x2, x3, x4, x5].drop 1).take (Try.prog.cellsOf 3)) = some y1 := (hg 1 _ rfl).trans e1
    rw [lay_cells_int] at g1
    have g2 : DataW.trod enc Try.prog w base spare held n 3 (([x0, x1, x2, x3, x4, x5].drop 2).take (Try.prog.cellsOf 3)) = some y2 := (hg 2 _ rfl).trans e2
    rw [lay_cells_int] at g2
    have g3 : DataW.trod enc Try.prog w base spare held n 3 (([x0, x1, x2, x3, x4, x5].drop 3).take (Try.prog.cellsOf 3)) = some y3 := (hg 3 _ rfl).trans e3
    rw [lay_cells_int] at g3
    have g4 : DataW.trod enc Try.prog w base spare held n 3 (([x0, x1, x2, x3, x4, x5].drop 4).take (Try.prog.cellsOf 3)) = some y4 := (hg 4 _ rfl).trans e4
    rw [lay_cells_int] at g4
    have g5 : DataW.trod enc Try.prog w base spare held n 3 (([x0, x1, x2, x3, x4, x5].drop 5).take (Try.prog.cellsOf 3)) = some y5 := (hg 5 _ rfl).trans e5
    rw [lay_cells_int] at g5
    obtain ⟨k0, h0, _⟩ := DataW.trod_int Try.underlying3 g0
    obtain ⟨k1, h1, _⟩ := DataW.trod_int Try.underlying3 g1
    obtain ⟨k2, h2, _, w2⟩ := DataW.trod_int Try.underlying3 g2
    obtain ⟨k3, h3, _⟩ := DataW.trod_int Try.underlying3 g3
    obtain ⟨k4, h4, _⟩ := DataW.trod_int Try.underlying3 g4
    obtain ⟨k5, h5, _⟩ := DataW.trod_int Try.underlying3 g5
    simp at h0 h1 h2 h3 h4 h5
    exact ⟨k0, k1, k2, k3, k4, k5, by rw [h0, h1, h2, h3, h4, h5], w2⟩
end Go.Proofs.Ytpkogdpgchibdaa

/- ModelRaw: the program's New, Apply and Run answer as the document's own, for any blocks and commands. No condition. -/
namespace Go.Proofs.Ytpkogdpgchibdaa.modelRaw
open Go.ChangeShapes Go.WideShapes Go.ChangeAt Go.RowKit
open Go.ChangeMaps (open_string shut_string)
set_option linter.unusedVariables false

theorem own : ownKnob Try.prog.godebug = none := by kernel_rfl
theorem laidOut : laidOutB Try.prog = true := by kernel_rfl

theorem walk (a0 : Int) (w0 : (Lit.int .i64 a0).wf = true) (sa1 : Option Addr) (sn1 sc1 : Nat) (sl1 : List ByteArray) (k2 b2 : Int) (s2 : ByteArray) (w2 : s2.size ≤ maxLen) (ma3 : Option Addr) (mn3 mc3 : Nat) (ml3 : List ModMath.Cmd) (w : World) (hm : sn1 ≤ 8796093022208) (w1 : Ents.SList w (fun b => b < w.heap.size) sa1 sn1 sc1 sl1) (w3 : Ents.CList' w (fun b => b < w.heap.size) ma3 mn3 mc3 ml3) :
    Calls Try.prog 3 #[.int .i64 a0, .slice sa1 sn1 sc1, .agg #[.int .i64 k2, .int .i64 b2, .string s2], .slice ma3 mn3 mc3] w fun e w' => e = .returned (.bool true) ∧ Below w.heap.size w w' := by
  exact Ents.modRaw_any Ents.modelOk _ _ a0 sl1 ml3 sa1 ma3 sn1 sc1 mn3 mc3 k2 b2 s2 w w1 w3 hm

set_option maxRecDepth 100000 in
theorem lifted (os : Os) (started : os.Started) (H : Type) (enc : TypeId × Value → H) :
    ReturnsInHanded {} Try.checked os 3 .any (Rows.modelRawSpec.pre6 enc Try.prog Try.f3 Rows.modelRawRow.domain false) (Rows.modelRawSpec.post enc Try.prog Try.f3 false true false false) := by
  refine returnsInHanded_of_change_sized (C := Try.checked) own started (by kernel_rfl) Try.func3
    (ChangeSpec.witness6 (enc := enc) (C := Try.checked) false ⟨#[], #[.int .i64 0, .slice none 0 0, .agg #[.int .i64 0, .int .i64 0, .string ByteArray.empty], .slice none 0 0], []⟩ 8 (by kernel_rfl) (by kernel_rfl) (by kernel_rfl) (by kernel_rfl)) ?_
  intro W base args ds gs before hval0 hW hcnd hsz0 _
  have hsz : (DataW.weightsEach Try.prog (Try.f3.params.toList ++ Rows.modelRawSpec.plain.varTypes Try.prog) (ds ++ gs)).all (· ≤ reachBytes) = true := hsz0
  have hval : ∀ (j : Nat) t v, Try.f3.params[j]? = some t → args[j]? = some v → Value.okWide Try.prog W .any base t v := hval0
  have hW' := hW
  obtain ⟨p, q, hA0, hV, rfl, hfz, hnd⟩ := hW
  have hA : DataW.TrodAll enc Try.prog W 0 (fun _ => true) true Try.f3.params.toList args.toList ds p := hA0
  rw [Try.params3] at hA hval hsz
  obtain ⟨v0, vs0, d0, ds0, p0, q0, hargs, rfl, rfl, h0, r0⟩ := trodAll_cons hA
  obtain ⟨v1, vs1, d1, ds1, p1, q1, rfl, rfl, rfl, h1, r1⟩ := trodAll_cons r0
  obtain ⟨v2, vs2, d2, ds2, p2, q2, rfl, rfl, rfl, h2, r2⟩ := trodAll_cons r1
  obtain ⟨v3, vs3, d3, ds3, p3, q3, rfl, rfl, rfl, h3, r3⟩ := trodAll_cons r2
  obtain ⟨rfl, rfl, rfl⟩ := trodAll_nil r3
  obtain rfl : args = #[v0, v1, v2, v3] := by cases args; simp_all
  obtain ⟨rfl, rfl⟩ := trodVars_none hV
  have k0' := h0
  have lt0 : ∀ x ∈ p0, x.block < W.heap.size := by obtain ⟨m, hm⟩ := h0; exact DataW.trod_lt m _ _ _ hm
  have k1' := h1
  have lt1 : ∀ x ∈ p1, x.block < W.heap.size := by obtain ⟨m, hm⟩ := h1; exact DataW.trod_lt m _ _ _ hm
  have k2' := h2
  have lt2 : ∀ x ∈ p2, x.block < W.heap.size := by obtain ⟨m, hm⟩ := h2; exact DataW.trod_lt m _ _ _ hm
  have k3' := h3
  have lt3 : ∀ x ∈ p3, x.block < W.heap.size := by obtain ⟨m, hm⟩ := h3; exact DataW.trod_lt m _ _ _ hm
  obtain ⟨a0, rfl, _, _, w0⟩ := open_int Try.underlying3 (hval 0 3 v0 rfl rfl) h0
  obtain ⟨sa1, sn1, sc1, sl1, rfl, w1⟩ := Ents.open_strs (fun _ => rfl) (hval 1 22 v1 rfl rfl) h1
  obtain ⟨k2, b2, s2, rfl, w2⟩ := open_cmd (hval 2 24 v2 rfl rfl) h2
  obtain ⟨ma3, mn3, mc3, ml3, rfl, w3⟩ := Ents.open_cmds (fun _ => rfl) (hval 3 25 v3 rfl rfl) h3
  have hm := Ents.strs_len h1 (fun y hy => of_decide_eq_true (List.all_eq_true.1 hsz y (DataW.weights_mem_each (j := 1) (t := 22) rfl rfl y hy)))
  clear hA0 hval0 hsz hsz0
  refine (walk a0 w0 sa1 sn1 sc1 sl1 k2 b2 s2 w2 ma3 mn3 mc3 ml3 W hm w1 w3).mono fun e W' ⟨he, bel⟩ => ?_
  subst he
  exact ⟨_, rfl, _, _, _, [], _, [], hW', trodAll_mk1 (shut_bool Try.underlying4 _), (trodAll_cons_mk (Below.trod laidOut (by kernel_rfl) (of_decide_eq_true (by kernel_rfl)) k0' bel lt0) (trodAll_cons_mk (Below.trod laidOut (by kernel_rfl) (of_decide_eq_true (by kernel_rfl)) k1' bel lt1) (trodAll_cons_mk (Below.trod laidOut (by kernel_rfl) (of_decide_eq_true (by kernel_rfl)) k2' bel lt2) (trodAll_cons_mk (Below.trod laidOut (by kernel_rfl) (of_decide_eq_true (by kernel_rfl)) k3' bel lt3) trodAll_mk0)))), rfl, bel.frame _, fun h => by cases h⟩

theorem over : Rows.modelRawRow.holds Try.pinned (OpenSpec.ofChange Rows.modelRawSpec) :=
  OpenClaim.holds_of_wide 3 Try.f3 rfl rfl rfl rfl rfl rfl rfl ⟨rfl, rfl, rfl, rfl, rfl⟩ rfl rfl rfl rfl rfl (by kernel_rfl) Try.func3 (by kernel_rfl)
    (of_decide_eq_true (by kernel_rfl)) (by unfold Func.isWrapper; first | (rw [if_pos (by decide +kernel)]; kernel_rfl) | (rw [if_neg (by decide +kernel)]; exact ⟨rfl, rfl⟩))
    (fun os started H enc _ => lifted os started H enc)
end Go.Proofs.Ytpkogdpgchibdaa.modelRaw

namespace Go.Proofs.Ytpkogdpgchibdaa
theorem modelRaw_holds : Rows.ModelRawSaid := modelRaw.over
end Go.Proofs.Ytpkogdpgchibdaa
