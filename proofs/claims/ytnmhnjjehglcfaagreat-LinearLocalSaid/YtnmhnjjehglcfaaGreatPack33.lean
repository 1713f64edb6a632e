/- Texts that belong together, part 33. -/
import Derived.Test.YtnmhnjjehglcfaaGreatPack16
import Derived.Test.YtnmhnjjehglcfaaGreatPack30
import Derived.Test.YtnmhnjjehglcfaaGreatPack32

/- What the program promises of linearizations; the walk of the laws' answered. -/
namespace Go.Proofs.YtnmhnjjehglcfaaGreat.Ents
open Go.RowKit Plan HisMath LinMath Rws Env LayMath
/-- what Find leaves -/
def FndPost (B : List ByteArray) (L : List Ev) (w : World) (r : Ending) (w' : World) : Prop :=
  ∃ (la : Option Addr) (ln lc : Nat) (l : List Int) (b : Bool), r = .returned (.tuple #[.slice la ln lc, .bool b]) ∧ TList IR w' (fun x => w.heap.size ≤ x) la ln lc l ∧ Below w.heap.size w w' ∧
    (b = true ↔ CanP B L) ∧ (b = true → linE B L l = 0) ∧ (b = false → l = [])
structure LinearOk : Prop where
  check : ∀ (F G I : Nat → Prop) (B : List ByteArray) (L : List Ev) (o : List Int) (a b e : Option Addr) (n c m d p q : Nat) (w : World), SList w F a n c B → VList w G b m d L → TList IR w I e p q o → n ≤ 8796093022208 → m ≤ 100000 → p ≤ 100000 →
    Calls Tryz.prog 12 #[.slice a n c, .slice b m d, .slice e p q] w fun r w' => r = .returned (.int .i64 (linE B L o)) ∧ Below w.heap.size w w'
  block : ∀ (F : Nat → Prop) (v : ByteArray) (L : List Ev) (a : Option Addr) (n c : Nat) (w : World), VList w F a n c L → n ≤ 100000 → Calls Tryz.prog 20 #[.string v, .slice a n c] w (BlkPost v L w)
  values : ∀ (F : Nat → Prop) (v : ByteArray) (L : List Ev) (a : Option Addr) (n c : Nat) (w : World), VList w F a n c L → n ≤ 100000 → Calls Tryz.prog 22 #[.string v, .slice a n c] w (ValPost v L w)
  find : ∀ (F G : Nat → Prop) (B : List ByteArray) (L : List Ev) (a b : Option Addr) (n c m d : Nat) (w : World), SList w F a n c B → VList w G b m d L → n ≤ 8796093022208 → m ≤ 100000 →
    Calls Tryz.prog 17 #[.slice a n c, .slice b m d] w (FndPost B L w)
set_option maxHeartbeats 8000000 in
set_option maxRecDepth 20000 in
theorem answered_any (x : Ev) (d : ByteArray) (w : World) : Calls Tryz.prog 35 #[evV x, .string d] w fun r w' => r = .returned (evV { x with ret := true, res := d }) ∧ Below w.heap.size w w' := by
  obtain ⟨xr, xq, xs, xk, xb, xd, xe, xx⟩ := x
  have K9 := ((Env.start w).al (.cells #[.bool true, .int .i64 xq, .int .i64 xs, .int .i64 xk, .int .i64 xb, .string xd, .int .i64 xe, .string d] 55)).al (.cells #[.bool true, .int .i64 xq, .int .i64 xs, .int .i64 xk, .int .i64 xb, .string xd, .int .i64 xe, .string d] 55)
  simp only [World.size_alloc] at K9
  go_enter Tryz.func35, Tryz.ntmps35
  go_wp2_with fail
  exact bodyPost_ret (results_cell_row rfl _ _ _ _ _ _ _ rfl (K9.get 0 rfl) Tryz.underlying55 rfl ev_info) rfl ⟨rfl, K9.hb⟩
end Go.Proofs.YtnmhnjjehglcfaaGreat.Ents

/- Lists of steps and of sets in memory, the search's box, and the walk of the program's has. -/
namespace Go.Proofs.YtnmhnjjehglcfaaGreat.Ents
open Go.RowKit Plan HisMath LinMath Rws Env LayMath Bits SrchM
def STR : Row Stp := ⟨94, 88, 5, 48, .agg #[.int .i64 0, .bool false, .string ⟨#[]⟩, .int .i64 0, .int .i64 0], fun x => [.int .i64 x.serial, .bool x.reads, .string x.value, .int .i64 x.frm, .int .i64 x.tu]⟩
theorem strOk : STR.Ok := ⟨fun _ => rfl, fun e u hu => by simp only [STR, List.mem_cons, List.not_mem_nil, or_false] at hu; rcases hu with rfl | rfl | rfl | rfl | rfl <;> rfl, by decide, by kernel_rfl, rfl, Tryz.underlying88, by decide⟩
abbrev PList := TList STR
theorem stp_info : (Tryz.prog.info? 94).map (·.size) = some 5 := by kernel_rfl
theorem lst_info : (Tryz.prog.info? 136).map (·.size) = some 2 := by kernel_rfl
theorem stp_at {w : World} {F : Nat → Prop} {a : Option Addr} {n c : Nat} {L : List Stp} (h : PList w F a n c L) (i : Nat) (hi : i < n) : ∃ x r, a = some x ∧ L[i]? = some r ∧ w.cell? (x.add (i * 5)) = some (.int .i64 r.serial) ∧ w.cell? ⟨(x.add (i * 5)).block, (x.add (i * 5)).off + 1, none⟩ = some (.bool r.reads) ∧ w.cell? ⟨(x.add (i * 5)).block, (x.add (i * 5)).off + 2, none⟩ = some (.string r.value) ∧ w.cell? ⟨(x.add (i * 5)).block, (x.add (i * 5)).off + 3, none⟩ = some (.int .i64 r.frm) ∧ w.cell? ⟨(x.add (i * 5)).block, (x.add (i * 5)).off + 4, none⟩ = some (.int .i64 r.tu) := by
  obtain ⟨x, r, hx, hr, hc⟩ := h.at' strOk i hi
  have e := ent_add_off x (i * 5)
  exact ⟨x, r, hx, hr, hc 0 _ rfl, by rw [← e 0]; exact hc 1 _ rfl, by rw [← e 1]; exact hc 2 _ rfl, by rw [← e 2]; exact hc 3 _ rfl, by rw [← e 3]; exact hc 4 _ rfl⟩
def UR : Row Nat := ⟨133, 128, 1, 4, .int .u32 0, fun z => [.int .u32 (z : Int)]⟩
theorem urOk : UR.Ok := ⟨fun _ => rfl, fun e u hu => by simp only [UR, List.mem_cons, List.not_mem_nil, or_false] at hu; subst hu; rfl, by decide, by kernel_rfl, rfl, Tryz.underlying128, by decide⟩
theorem ur_at {w : World} {F : Nat → Prop} {a : Option Addr} {n c : Nat} {L : List Nat} (h : TList UR w F a n c L) (i : Nat) (hi : i < n) : ∃ x y, a = some x ∧ L[i]? = some y ∧ w.cell? (x.add i) = some (.int .u32 (y : Int)) := by
  obtain ⟨x, y, hx, hy, hc⟩ := h.at' urOk i hi
  have := hc 0 _ rfl
  rw [show UR.sz = 1 from rfl, Nat.mul_one, Nat.add_zero] at this
  exact ⟨x, y, hx, hy, this⟩
abbrev sT (g : Nat) (sa : Option Addr) (sn sc : Nat) (ba : Option Addr) (bc : Nat) (mb : Nat) (ov : Value) : Thing := .box g (.cells #[.slice sa sn sc, .slice ba sn bc, .map (some mb), ov] 131 (0, 0))
abbrev aT (X D : Nat) (v : ByteArray) : Thing := .box X (.cells #[.int .u32 (D : Int), .string v] 136 (0, 0))
def serO (S : List Stp) (o : List Nat) : List Int := o.map fun i => match S[i]? with | some a => a.serial | none => 0
def befL (S : List Stp) : List Nat := (List.range S.length).map fun i => befN S i S.length
theorem bef_get {S : List Stp} {i : Nat} (hi : i < S.length) : (befL S)[i]? = some (befN S i S.length) := by
  unfold befL
  rw [List.getElem?_map, List.getElem?_range hi]
  rfl
theorem bef_lt (S : List Stp) (i : Nat) : ∀ n, befN S i n < 2 ^ n
  | 0 => by simp [befN]
  | n + 1 => by
    have h := bef_lt S i n
    have h2 : 2 ^ n < 2 ^ (n + 1) := Nat.pow_lt_pow_right (by decide) (by omega)
    unfold befN
    split
    · split
      · exact Nat.or_lt_two_pow (by omega) h2
      · omega
    · omega
theorem pow_lt30 {k n : Nat} (hk : k ≤ 30) (h : n < 2 ^ k) : n < 2 ^ 30 := Nat.lt_of_lt_of_le h (Nat.pow_le_pow_right (by decide) hk)
theorem pre_zero {S : List Stp} {D i : Nat} (hn : S.length ≤ 30) (hD : D < 2 ^ 30) : andN (befN S i S.length) D = 0 ↔ pre S D i := by
  have hB := pow_lt30 hn (bef_lt S i S.length)
  rw [bits_zero]
  constructor
  · intro h k hk
    have h1 := h k
    rw [andN_bit (by omega) (by omega)] at h1
    obtain ⟨a, b, ha, hb, hlt⟩ := hk
    rw [(bef_bit i k S.length).2 ⟨(List.getElem?_eq_some_iff.1 hb).1, a, b, ha, hb, hlt⟩] at h1
    simpa using h1
  · intro h k
    rw [andN_bit (by omega) (by omega)]
    cases hq : (befN S i S.length).testBit k with
    | false => rfl
    | true => rw [h k ((bef_bit i k S.length).1 hq).2]; rfl
set_option maxHeartbeats 8000000 in
set_option maxRecDepth 20000 in
theorem has_any (D i : Nat) (hD : D < 2 ^ 30) (hi : i ≤ 30) (w : World) : Calls Tryz.prog 134 #[.int .u32 (D : Int), .int .i64 (i : Int)] w fun r w' => r = .returned (.bool (D.testBit i)) ∧ Below w.heap.size w w' := by
  have hb := Below.refl w.heap.size w
  have hq := Lib.hid (has_bit (i := i) hD)
  go_enter Tryz.func134, Tryz.ntmps134
  go_wp2_with fail
  go_ret
  exact ⟨ret_b hq.out, hb⟩
end Go.Proofs.YtnmhnjjehglcfaaGreat.Ents

/- The walk of the program's do: a step is done, unless one that is before it is left. -/
namespace Go.Proofs.YtnmhnjjehglcfaaGreat.Ents
open Go.RowKit Plan HisMath LinMath Rws Env LayMath Bits SrchM
theorem ser_snoc {S : List Stp} {o : List Nat} {i : Nat} {a : Stp} (h : S[i]? = some a) : serO S (o ++ [i]) = serO S o ++ [a.serial] := by simp [serO, h]
theorem shl_wrap {i : Nat} (hi : i ≤ 30) : IntKind.wrap .u32 ((2 : Int) ^ i) = ((2 ^ i : Nat) : Int) := by
  have h3 : 2 ^ i < 2 ^ 31 := Nat.pow_lt_pow_right (by decide) (by omega)
  rw [show (2 : Int) ^ i = ((2 ^ i : Nat) : Int) by simp]
  exact wrap_u32 (by omega)
set_option maxHeartbeats 8000000 in
set_option maxRecDepth 20000 in
theorem do_any (S : List Stp) (g X mb sn sc bc i : Nat) (sa ba : Option Addr) (hn : sn ≤ 30) (s : St) (w0 w : World) (F : Nat → Prop) (T : List Thing) (ov : Value) (hD : s.D < 2 ^ 30) (ho : s.o.length ≤ 1000)
    (K : Env w0 w (aT X s.D s.v :: sT g sa sn sc ba bc mb ov :: Env.lst IR ov s.o.length (serO S s.o) :: T)) (sl : PList w (Quiet w0 F w (aT X s.D s.v :: sT g sa sn sc ba bc mb ov :: Env.lst IR ov s.o.length (serO S s.o) :: T)) sa sn sc S)
    (bl : TList UR w (Quiet w0 F w (aT X s.D s.v :: sT g sa sn sc ba bc mb ov :: Env.lst IR ov s.o.length (serO S s.o) :: T)) ba sn bc (befL S)) (hi : i < sn) :
    Calls Tryz.prog 135 #[.pointer (some ⟨g, 0, none⟩), .pointer (some ⟨X, 0, none⟩), .int .i64 (i : Int)] w fun r w' => r = .returned (.tuple #[]) ∧ ∃ ov', Env w0 w' (aT X (doS S s i).D (doS S s i).v :: sT g sa sn sc ba bc mb ov' :: Env.lst IR ov' (doS S s i).o.length (serO S (doS S s i).o) :: T) ∧
      Keep w0 F w (aT X s.D s.v :: sT g sa sn sc ba bc mb ov :: Env.lst IR ov s.o.length (serO S s.o) :: T) w' (aT X (doS S s i).D (doS S s i).v :: sT g sa sn sc ba bc mb ov' :: Env.lst IR ov' (doS S s i).o.length (serO S (doS S s i).o) :: T) := by
  have hlen := sl.length
  have hi30 : i ≤ 30 := by omega
  obtain ⟨x, a, hx, ha, c0, c1, c2, c3, c4⟩ := stp_at sl i hi
  obtain ⟨y, b, hy, hb, cb⟩ := ur_at bl i hi
  rw [bef_get (by omega)] at hb
  obtain rfl := Option.some.inj hb
  clear hb
  have hB := pow_lt30 (by omega) (bef_lt S i S.length)
  have hand := bits_andNot32 hB hD
  have hpz := pre_zero (i := i) (S := S) (by omega) hD
  have hor := Lib.hid (bits_or32 hD (show 2 ^ i < 2 ^ 30 from Nat.pow_lt_pow_right (by decide) (by omega)))
  have hsh := Lib.hid (shl_wrap hi30)
  have k0 := K.keep_drew (F := F)
  have sl0 := sl
  have bl0 := bl
  obtain ⟨D, v, o⟩ := s
  simp only at *
  by_cases hp : pre S D i
  · have e0 := hpz.2 hp
    rw [e0] at hand
    rw [do_yes ha hp]
    simp only [ser_snoc ha, List.length_append, List.length_singleton]
    subst hx hy
    clear hpz
    have hneq : (((0 : Nat) : Int) != 0) = false := rfl
    have HS := Lib.hid (fun W T' (k : Keep w0 F w (aT X D v :: sT g (some x) sn sc (some y) bc mb ov :: Env.lst IR ov o.length (serO S o) :: T) W T') => (show W.cell? (x.add (i * 5)) = some (.int .i64 a.serial) ∧ W.cell? ⟨(x.add (i * 5)).block, (x.add (i * 5)).off + 2, none⟩ = some (.string a.value) from by
      obtain ⟨x', r, hx, hr, q0, _, q2, _⟩ := stp_at (sl0.keep k) i hi
      obtain rfl := Option.some.inj hx
      rw [ha] at hr
      obtain rfl := Option.some.inj hr
      exact ⟨q0, q2⟩))
    have HV := Lib.hid (fun W T' k => (HS.out W T' k).2)
    replace HS := Lib.hid (fun W T' k => (HS.out W T' k).1)
    generalize befN S i S.length = B at *
    clear c0 c1 c2 c3 c4 sl bl e0 hp hB
    go_enter Tryz.func135, Tryz.ntmps135
    go_upto_region 0 with fail
    refine Plan.start (fun W => W.cell? ⟨g, 1, none⟩ = some (.slice (some y) sn bc) ∧ W.cell? (y.add i) = some (.int .u32 (B : Int)) ∧ W.cell? ⟨X, 0, none⟩ = some (.int .u32 (D : Int))) [(0, true), (1, true), (2, true), (3, true), (4, true), (5, true), (6, true), (7, true), (8, true), (9, true), (10, true), (11, true), (12, true)] (by kernel_rfl) (by kernel_rfl) (by kernel_rfl) (by kernel_rfl) ⟨cell_of_row _ _ 1 _ _ _ (K.drew.get 1 rfl), cb, cell_of_row _ _ 0 _ _ _ (K.drew.get 0 rfl)⟩ ?_
    simp only [List.map_cons, List.map_nil, List.getElem?_toArray, List.getElem?_cons_zero, List.getElem?_cons_succ]
    repeat (first | (refine Plan.take ?_ (by rfl) ?_ ?_; rotate_left; (· rintro w9 ⟨u0, u1, u2⟩; go_simp; (try rw [if_neg (by omega)]); all_goals (with_reducible rfl)); simp only [Act.put, List.setIfInBounds_toArray, List.set_cons_zero, List.set_cons_succ]) | (refine Plan.pass (by rfl) ?_; simp only [Act.put, List.setIfInBounds_toArray, List.set_cons_zero, List.set_cons_succ]))
    refine Plan.ends ?_
    have k := k0
    clear k0 cb
    replace K := K.drew
    obtain ⟨w1, hw1⟩ : ∃ W, W = w.drew := ⟨_, rfl⟩
    rw [← hw1] at K k ⊢
    clear hw1
    go_upto_region 1 with fail
    refine Tree.start (fun _ => True) (.take 0 (.take 1 (.take 2 (.take 4 (.take 5 (.only 3 (.take 6 (.take 7 (.take 8 (.only 9 (.done))))))))))) (by kernel_rfl) (by kernel_rfl) (by kernel_rfl) (by kernel_rfl) trivial ?_
    simp only [Tree.T.map, List.getElem?_toArray, List.getElem?_cons_zero, List.getElem?_cons_succ]
    have hcX := cell_of_row _ _ 0 _ _ _ (K.drew.get 0 rfl)
    replace k := k.trans K.keep_drew
    replace K := K.drew
    obtain ⟨w2, hw2⟩ : ∃ W, W = w1.drew := ⟨_, rfl⟩
    rw [← hw2] at K k ⊢
    clear hw2
    clear hcX
    have hcX := cell_of_row _ _ 0 _ _ _ (K.get 0 rfl)
    repeat (refine Tree.take ?_ (by rfl) ?_ ?_; rotate_left; (· rintro w9 -; go_simp; all_goals (with_reducible rfl)); simp only [Act.put, List.setIfInBounds_toArray, List.set_cons_zero, List.set_cons_succ])
    refine Tree.only (by rfl) (Tree.wp_make (.int .u32 (D : Int)) w2 ?_ ⟨trivial, ?_⟩)
    · go_simp
    simp only [Act.put, List.setIfInBounds_toArray, List.set_cons_zero, List.set_cons_succ]
    repeat (refine Tree.take ?_ (by rfl) ?_ ?_; rotate_left; (· rintro w9 -; go_simp; all_goals (with_reducible rfl)); simp only [Act.put, List.setIfInBounds_toArray, List.set_cons_zero, List.set_cons_succ])
    refine Tree.only (by rfl) (K.store1 0 rfl 133 (.tmp 27) (.tmp 25) rfl 0 (.int .u32 ((D ||| 2 ^ i : Nat) : Int)) rfl (by rw [← hor.out, ← hsh.out]; rfl) (by simp) (by kernel_rfl) rfl rfl ?_)
    intro w3 K9 k9
    refine ⟨trivial, ?_⟩
    simp only [Act.put]
    refine Tree.ends ?_
    simp only [List.set, List.setIfInBounds_toArray] at K9 k9
    replace k := k.trans (k9 F)
    clear k9 K hcX
    have K := K9
    clear K9
    have hcX := cell_of_row _ _ 1 _ _ _ (K.get 0 rfl)
    have hfX := K.free 0 rfl 1
    have hcG := cell_of_row _ _ 0 _ _ _ (K.get 1 rfl)
    have hcV := HV.out _ _ k
    go_upto_region 3 with fail
    have k9 := K.keep_put1 (F := F) 0 rfl 1 (.string a.value) (cs' := #[.int .u32 ((D ||| 2 ^ i : Nat) : Int), .string a.value]) rfl rfl
    have K9 := K.put1 0 rfl 1 (.string a.value) (cs' := #[.int .u32 ((D ||| 2 ^ i : Nat) : Int), .string a.value]) rfl rfl
    simp only [List.set] at K9 k9
    replace k := k.trans k9
    clear k9 K hcX hfX hcG hcV
    have K := K9
    clear K9
    generalize World.setCell w3 _ _ = w4 at *
    refine Tree.start (fun W => W.cell? ⟨g, 0, none⟩ = some (.slice (some x) sn sc) ∧ W.cell? (x.add (i * 5)) = some (.int .i64 a.serial)) (.take 0 (.take 1 (.take 2 (.take 3 (.take 5 (.take 6 (.take 7 (.take 8 (.take 9 (.take 10 (.take 11 (.take 12 (.fork 4 (.only 13 (.only 14 (.take 15 (.take 16 (.only 17 (.done)))))) 13 (.only 4 (.only 14 (.take 15 (.take 16 (.only 17 (.done))))))))))))))))))) (by kernel_rfl) (by kernel_rfl) (by kernel_rfl) (by kernel_rfl) ⟨cell_of_row _ _ 0 _ _ _ (K.drew.get 1 rfl), HS.out _ _ (k.trans K.keep_drew)⟩ ?_
    simp only [Tree.T.map, List.getElem?_toArray, List.getElem?_cons_zero, List.getElem?_cons_succ]
    replace k := k.trans K.keep_drew
    replace K := K.drew
    obtain ⟨w5, hw5⟩ : ∃ W, W = w4.drew := ⟨_, rfl⟩
    rw [← hw5] at K k ⊢
    clear hw5
    repeat (refine Tree.take ?_ (by rfl) ?_ ?_; rotate_left; (· rintro w9 ⟨u0, u1⟩; go_simp; all_goals (with_reducible rfl)); simp only [Act.put, List.setIfInBounds_toArray, List.set_cons_zero, List.set_cons_succ])
    have hcO := cell_of_row _ _ 3 _ _ _ (K.get 1 rfl)
    have hser := HS.out _ _ k
    have KL := K.al (.cells (IR.c a.serial).toArray IR.et)
    have kL := k.trans (K.keep_al (.cells (IR.c a.serial).toArray IR.et))
    have hcL := cell_of_row _ _ 3 _ _ _ (KL.get 2 rfl)
    have hS1 : w5.cell? ⟨g, 0, none⟩ = some (.slice (some x) sn sc) ∧ w5.cell? (x.add (i * 5)) = some (.int .i64 a.serial) := ⟨cell_of_row _ _ 0 _ _ _ (K.get 1 rfl), hser⟩
    have hS2 : (w5.alloc (.cells (IR.c a.serial).toArray IR.et)).cell? ⟨g, 0, none⟩ = some (.slice (some x) sn sc) ∧ (w5.alloc (.cells (IR.c a.serial).toArray IR.et)).cell? (x.add (i * 5)) = some (.int .i64 a.serial) := ⟨cell_of_row _ _ 0 _ _ _ (KL.get 2 rfl), HS.out _ _ kL⟩
    refine Tree.fork (by rfl) (by rfl) ?_ ?_
    · refine Tree.wp_make ov w5 ?_ ⟨hS1, ?_⟩
      · go_simp
      simp only [Act.put, List.setIfInBounds_toArray, List.set_cons_zero, List.set_cons_succ]
      refine Tree.only (by rfl) (Tree.wp_make (.slice (some ⟨w5.heap.size, 0, none⟩) 1 1) (w5.alloc (.cells (IR.c a.serial).toArray IR.et)) ?_ ⟨hS2, ?_⟩)
      · go_simp; rfl
      simp only [Act.put, List.setIfInBounds_toArray, List.set_cons_zero, List.set_cons_succ]
      refine Tree.only (by rfl) (KL.app_one irOk (.tmp 43) (.tmp 52) rfl 3 0 rfl rfl (e := a.serial) rfl rfl (by omega) ?_)
      intro g3 c3 w6 K6 k6
      simp only [List.set] at K6 k6
      have k6' := kL.trans (k6 F)
      refine ⟨⟨cell_of_row _ _ 0 _ _ _ (K6.get 2 rfl), HS.out _ _ k6'⟩, ?_⟩
      simp only [Act.put, List.setIfInBounds_toArray, List.set_cons_zero, List.set_cons_succ]
      clear k6
      repeat (refine Tree.take ?_ (by rfl) ?_ ?_; rotate_left; (· rintro w9 ⟨u0, u1⟩; go_simp; all_goals (with_reducible rfl)); simp only [Act.put, List.setIfInBounds_toArray, List.set_cons_zero, List.set_cons_succ])
      refine Tree.only (by rfl) (K6.store1 2 rfl 24 (.tmp 55) (.tmp 53) rfl 3 (Env.slv g3 (o.length + 1) c3) rfl rfl (by simp) (by kernel_rfl) rfl rfl ?_)
      intro w7 K7 k7
      simp only [List.set, List.setIfInBounds_toArray] at K7 k7
      have k7' := k6'.trans (k7 F)
      refine ⟨⟨cell_of_row _ _ 0 _ _ _ (K7.get 2 rfl), HS.out _ _ k7'⟩, ?_⟩
      simp only [Act.put]
      refine Tree.ends ?_
      (try go_wp2_with fail)
      refine bodyPost_end (results_none rfl _ _ _) rfl ?_
      exact ⟨rfl, _, K7.tail, k7'.trans (K7.keep_sub fun _ h => List.mem_cons_of_mem _ h)⟩
    · refine Tree.wp_make (.slice (some ⟨w5.heap.size, 0, none⟩) 1 1) (w5.alloc (.cells (IR.c a.serial).toArray IR.et)) ?_ ⟨hS2, ?_⟩
      · go_simp; rfl
      simp only [Act.put, List.setIfInBounds_toArray, List.set_cons_zero, List.set_cons_succ]
      refine Tree.only (by rfl) (Tree.wp_make ov _ ?_ ⟨hS2, ?_⟩)
      · go_simp
      simp only [Act.put, List.setIfInBounds_toArray, List.set_cons_zero, List.set_cons_succ]
      refine Tree.only (by rfl) (KL.app_one irOk (.tmp 43) (.tmp 52) rfl 3 0 rfl rfl (e := a.serial) rfl rfl (by omega) ?_)
      intro g3 c3 w6 K6 k6
      simp only [List.set] at K6 k6
      have k6' := kL.trans (k6 F)
      refine ⟨⟨cell_of_row _ _ 0 _ _ _ (K6.get 2 rfl), HS.out _ _ k6'⟩, ?_⟩
      simp only [Act.put, List.setIfInBounds_toArray, List.set_cons_zero, List.set_cons_succ]
      clear k6
      repeat (refine Tree.take ?_ (by rfl) ?_ ?_; rotate_left; (· rintro w9 ⟨u0, u1⟩; go_simp; all_goals (with_reducible rfl)); simp only [Act.put, List.setIfInBounds_toArray, List.set_cons_zero, List.set_cons_succ])
      refine Tree.only (by rfl) (K6.store1 2 rfl 24 (.tmp 55) (.tmp 53) rfl 3 (Env.slv g3 (o.length + 1) c3) rfl rfl (by simp) (by kernel_rfl) rfl rfl ?_)
      intro w7 K7 k7
      simp only [List.set, List.setIfInBounds_toArray] at K7 k7
      have k7' := k6'.trans (k7 F)
      refine ⟨⟨cell_of_row _ _ 0 _ _ _ (K7.get 2 rfl), HS.out _ _ k7'⟩, ?_⟩
      simp only [Act.put]
      refine Tree.ends ?_
      (try go_wp2_with fail)
      refine bodyPost_end (results_none rfl _ _ _) rfl ?_
      exact ⟨rfl, _, K7.tail, k7'.trans (K7.keep_sub fun _ h => List.mem_cons_of_mem _ h)⟩
  · have e0 : ¬ andN (befN S i S.length) D = 0 := fun h => hp (hpz.1 h)
    rw [do_no hp]
    subst hx hy
    generalize hAN : andN (befN S i S.length) D = A at *
    have hneq : (((A : Nat) : Int) != 0) = true := by simp; omega
    generalize befN S i S.length = B at *
    clear hAN hpz e0
    go_enter Tryz.func135, Tryz.ntmps135
    go_upto_region 0 with fail
    refine Plan.start (fun W => W.cell? ⟨g, 1, none⟩ = some (.slice (some y) sn bc) ∧ W.cell? (y.add i) = some (.int .u32 (B : Int)) ∧ W.cell? ⟨X, 0, none⟩ = some (.int .u32 (D : Int))) [(0, true), (1, true), (2, true), (3, true), (4, true), (5, true), (6, true), (7, true), (8, true), (9, true), (10, true), (11, true), (12, true)] (by kernel_rfl) (by kernel_rfl) (by kernel_rfl) (by kernel_rfl) ⟨cell_of_row _ _ 1 _ _ _ (K.drew.get 1 rfl), cb, cell_of_row _ _ 0 _ _ _ (K.drew.get 0 rfl)⟩ ?_
    simp only [List.map_cons, List.map_nil, List.getElem?_toArray, List.getElem?_cons_zero, List.getElem?_cons_succ]
    repeat (first | (refine Plan.take ?_ (by rfl) ?_ ?_; rotate_left; (· rintro w9 ⟨u0, u1, u2⟩; go_simp; (try rw [if_neg (by omega)]); all_goals (with_reducible rfl)); simp only [Act.put, List.setIfInBounds_toArray, List.set_cons_zero, List.set_cons_succ]) | (refine Plan.pass (by rfl) ?_; simp only [Act.put, List.setIfInBounds_toArray, List.set_cons_zero, List.set_cons_succ]))
    refine Plan.ends ?_
    go_wp2_with fail
    (try simp only [Exit.inBlock, Exit.then]); refine bodyPost_ret (results_none rfl _ _ _) rfl ?_
    exact ⟨rfl, _, K.drew, k0⟩
end Go.Proofs.YtnmhnjjehglcfaaGreat.Ents

/- The walks of the program's readAll, hasReads and writeRest. -/
namespace Go.Proofs.YtnmhnjjehglcfaaGreat.SrchM
open LinMath
theorem goes_lim {S : List Stp} {v : ByteArray} {t : St} (h : Goes S ⟨0, v, []⟩ t) : t.D < 2 ^ S.length ∧ t.o.length ≤ S.length := by
  obtain ⟨l, h, e⟩ := h
  have e' : t.o = l := e
  have hlt : ∀ i ∈ l, i < S.length := fun i hi => by
    obtain ⟨a, ha⟩ := (h.new.2 i hi).2
    exact (List.getElem?_eq_some_iff.1 ha).1
  constructor
  · apply Nat.lt_pow_two_of_testBit
    intro i hi
    cases hq : t.D.testBit i with
    | false => rfl
    | true =>
      rw [h.bits] at hq
      rcases hq with hq | hq
      · simp at hq
      · have := hlt i hq; omega
  · rw [e']
    have h2 := nodup_le (l := l) (m := List.range S.length) h.new.1 (fun i hi => List.mem_range.2 (hlt i hi))
    rwa [List.length_range] at h2
theorem loop_next {S : List Stp} {p : St → Nat → Stp → Bool} {s : St} {n : Nat} {a : Stp} (h : S[n]? = some a) : (p (loopS S p s n) n a = true → loopS S p s (n + 1) = doS S (loopS S p s n) n) ∧ (p (loopS S p s n) n a = false → loopS S p s (n + 1) = loopS S p s n) :=
  ⟨fun hp => by simp [loopS, h, hp], fun hp => by simp [loopS, h, hp]⟩
end Go.Proofs.YtnmhnjjehglcfaaGreat.SrchM
namespace Go.Proofs.YtnmhnjjehglcfaaGreat.Ents
open Go.RowKit Plan HisMath LinMath Rws Env LayMath Bits SrchM
abbrev sTs (S : List Stp) (g : Nat) (sa : Option Addr) (sn sc : Nat) (ba : Option Addr) (bc mb X : Nat) (t : St) (ov : Value) (T : List Thing) : List Thing := aT X t.D t.v :: sT g sa sn sc ba bc mb ov :: Env.lst IR ov t.o.length (serO S t.o) :: T
def StGo (S : List Stp) (g : Nat) (sa : Option Addr) (sn sc : Nat) (ba : Option Addr) (bc mb X : Nat) (s t : St) (w0 w : World) (F : Nat → Prop) (T : List Thing) (ov : Value) (w' : World) : Prop :=
  ∃ ov', Env w0 w' (sTs S g sa sn sc ba bc mb X t ov' T) ∧ Keep w0 F w (sTs S g sa sn sc ba bc mb X s ov T) w' (sTs S g sa sn sc ba bc mb X t ov' T)
theorem StGo.trans {S : List Stp} {g sn sc bc mb X : Nat} {sa ba : Option Addr} {s t u : St} {w0 w w1 w2 : World} {F : Nat → Prop} {T : List Thing} {ov ov1 : Value} (k : Keep w0 F w (sTs S g sa sn sc ba bc mb X s ov T) w1 (sTs S g sa sn sc ba bc mb X t ov1 T)) (h : StGo S g sa sn sc ba bc mb X t u w0 w1 F T ov1 w2) : StGo S g sa sn sc ba bc mb X s u w0 w F T ov w2 := by
  obtain ⟨ov', K, k2⟩ := h
  exact ⟨ov', K, k.trans k2⟩
theorem do_go (S : List Stp) (g X mb sn sc bc i : Nat) (sa ba : Option Addr) (hn : sn ≤ 30) (s : St) (w0 w : World) (F : Nat → Prop) (T : List Thing) (ov : Value) (hD : s.D < 2 ^ 30) (ho : s.o.length ≤ 1000)
    (K : Env w0 w (sTs S g sa sn sc ba bc mb X s ov T)) (sl : PList w (Quiet w0 F w (sTs S g sa sn sc ba bc mb X s ov T)) sa sn sc S) (bl : TList UR w (Quiet w0 F w (sTs S g sa sn sc ba bc mb X s ov T)) ba sn bc (befL S)) (hi : i < sn) :
    Calls Tryz.prog 135 #[.pointer (some ⟨g, 0, none⟩), .pointer (some ⟨X, 0, none⟩), .int .i64 (i : Int)] w fun r w' => r = .returned (.tuple #[]) ∧ StGo S g sa sn sc ba bc mb X s (doS S s i) w0 w F T ov w' :=
  do_any S g X mb sn sc bc i sa ba hn s w0 w F T ov hD ho K sl bl hi
theorem stp_cells {w : World} {g : Nat} {a : Int} {b : Bool} {c : ByteArray} {d e : Int} {fr : Nat × Nat} (h : w.heap[g]? = some (.cells #[.int .i64 a, .bool b, .string c, .int .i64 d, .int .i64 e] 94 fr)) : w.cell? ⟨g, 0, none⟩ = some (.int .i64 a) ∧ w.cell? ⟨g, 1, none⟩ = some (.bool b) ∧ w.cell? ⟨g, 2, none⟩ = some (.string c) ∧ w.cell? ⟨g, 3, none⟩ = some (.int .i64 d) ∧ w.cell? ⟨g, 4, none⟩ = some (.int .i64 e) :=
  ⟨cell_of_row _ _ 0 _ _ _ h, cell_of_row _ _ 1 _ _ _ h, cell_of_row _ _ 2 _ _ _ h, cell_of_row _ _ 3 _ _ _ h, cell_of_row _ _ 4 _ _ _ h⟩
theorem perm4 {a b c d : Thing} {T : List Thing} : (a :: b :: c :: d :: T).Perm (b :: c :: d :: a :: T) := perm3.trans (((List.Perm.swap d a T).cons c).cons b)
theorem mem4 {a b c d : Thing} {T : List Thing} : ∀ x ∈ a :: b :: c :: T, x ∈ a :: b :: c :: d :: T := fun x h => by
  simp only [List.mem_cons] at h ⊢
  rcases h with h | h | h | h
  · exact .inl h
  · exact .inr (.inl h)
  · exact .inr (.inr (.inl h))
  · exact .inr (.inr (.inr (.inr h)))
set_option maxHeartbeats 8000000 in
set_option maxRecDepth 20000 in
theorem readAll_any (S : List Stp) (g X mb sn sc bc : Nat) (sa ba : Option Addr) (hn : sn ≤ 30) (v0 : ByteArray) (s : St) (h0 : Goes S ⟨0, v0, []⟩ s) (w0 w : World) (F : Nat → Prop) (T : List Thing) (ov : Value)
    (K : Env w0 w (sTs S g sa sn sc ba bc mb X s ov T)) (sl : PList w (Quiet w0 F w (sTs S g sa sn sc ba bc mb X s ov T)) sa sn sc S) (bl : TList UR w (Quiet w0 F w (sTs S g sa sn sc ba bc mb X s ov T)) ba sn bc (befL S)) :
    Calls Tryz.prog 108 #[.pointer (some ⟨g, 0, none⟩), .pointer (some ⟨X, 0, none⟩)] w fun r w' => r = .returned (.tuple #[]) ∧ StGo S g sa sn sc ba bc mb X s (loopS S readP s sn) w0 w F T ov w' := by
  have hlen := sl.length
  obtain ⟨hcp, hcm⟩ := sl.cap
  unfold maxLen at hcm
  have hcG := cell_of_row _ _ 0 _ _ _ (K.get 1 rfl)
  have k := K.keep_refl (F := F)
  have HL := Lib.hid (fun j => goes_lim (h0.trans (read_goes s j).1))
  go_enter Tryz.func108, Tryz.ntmps108
  go_wp2_with fail
  clear hcG
  go_loopw [11] (fun x wr => ∃ i : Nat, x = .int .i64 (i : Int) ∧ i ≤ sn ∧ StGo S g sa sn sc ba bc mb X s (loopS S readP s i) w0 w F T ov wr) (fun x _ => sn - (intOf x).toNat)
  case atStart => exact ⟨0, rfl, by omega, ov, K, k⟩
  case round =>
    clear K k
    obtain ⟨i, rfl, hi', ov1, K, k⟩ := hrel
    by_cases hi : i < sn
    · obtain ⟨x, a, rfl, ha, c0, c1, c2, c3, c4⟩ := stp_at (sl.keep k) i hi
      have hiI : (i : Int) < (sn : Int) := by omega
      have hi30 : i ≤ 30 := by omega
      have HN := Lib.hid (@loop_next S readP s i a ha)
      obtain ⟨hD, ho⟩ := HL.out i
      rw [hlen] at hD ho
      replace hD := pow_lt30 hn hD
      replace ho : (loopS S readP s i).o.length ≤ 1000 := by omega
      generalize loopS S readP s i = t at *
      generalize hR : readP t i a = R at *
      unfold readP at hR
      clear ha
      obtain ⟨ay, ar, av, af, au⟩ := a
      simp only at c0 c1 c2 c3 c4 hR
      go_upto_region 3 with fail
      have k9 := K.keep_al (F := F) (.cells #[.int .i64 ay, .bool ar, .string av, .int .i64 af, .int .i64 au] 94)
      have K9 := K.al (.cells #[.int .i64 ay, .bool ar, .string av, .int .i64 af, .int .i64 au] 94)
      replace k := k.trans k9
      clear k9 K
      have K := K9
      clear K9
      obtain ⟨gx, hg⟩ : ∃ gx, wr.heap.size = gx := ⟨_, rfl⟩
      rw [hg] at K k
      simp only [hg]
      generalize wr.alloc (.cells #[.int .i64 ay, .bool ar, .string av, .int .i64 af, .int .i64 au] 94) = w1 at *
      clear c0 c1 c2 c3 c4 hg
      generalize hbit : t.D.testBit i = z at *
      cases ar with
      | false =>
        have hR' : R = false := by rw [← hR]; rfl
        have HQ := Lib.hid hR'
        clear hR hR'
        refine Plan.start (fun W => W.cell? ⟨gx, 1, none⟩ = some (.bool false) ∧ W.cell? ⟨gx, 2, none⟩ = some (.string av) ∧ W.cell? ⟨X, 0, none⟩ = some (.int .u32 (t.D : Int)) ∧ W.cell? ⟨X, 1, none⟩ = some (.string t.v)) [(0, true), (1, true), (2, true), (3, true), (4, true), (5, true), (6, true), (7, true), (8, false), (9, true), (10, true), (11, true), (12, true), (13, true), (14, true), (15, true), (16, true), (17, true), (18, true), (19, true)] (by kernel_rfl) (by kernel_rfl) (by kernel_rfl) (by kernel_rfl) ⟨cell_of_row _ _ 1 _ _ _ (K.drew.get 0 rfl), cell_of_row _ _ 2 _ _ _ (K.drew.get 0 rfl), cell_of_row _ _ 0 _ _ _ (K.drew.get 1 rfl), cell_of_row _ _ 1 _ _ _ (K.drew.get 1 rfl)⟩ ?_
        simp only [List.map_cons, List.map_nil, List.getElem?_toArray, List.getElem?_cons_zero, List.getElem?_cons_succ]
        replace k := k.trans K.keep_drew
        replace K := K.drew
        obtain ⟨w2, hw2⟩ : ∃ W, W = w1.drew := ⟨_, rfl⟩
        rw [← hw2] at K k ⊢
        clear hw2
        repeat (first | (refine Plan.take ?_ (by rfl) ?_ ?_; rotate_left; (· rintro w9 ⟨u0, u1, u2, u3⟩; go_simp; (try rw [if_neg (by omega)]); all_goals (with_reducible rfl)); simp only [Act.put, List.setIfInBounds_toArray, List.set_cons_zero, List.set_cons_succ]) | (refine Plan.pass (by rfl) ?_; simp only [Act.put, List.setIfInBounds_toArray, List.set_cons_zero, List.set_cons_succ]))
        refine Plan.pass' (by rfl) ⟨cell_of_row _ _ 1 _ _ _ (K.get 0 rfl), cell_of_row _ _ 2 _ _ _ (K.get 0 rfl), cell_of_row _ _ 0 _ _ _ (K.get 1 rfl), cell_of_row _ _ 1 _ _ _ (K.get 1 rfl)⟩ ?_
        simp only [Act.put, List.setIfInBounds_toArray, List.set_cons_zero, List.set_cons_succ]
        repeat (first | (refine Plan.take ?_ (by rfl) ?_ ?_; rotate_left; (· rintro w9 ⟨u0, u1, u2, u3⟩; go_simp; (try rw [if_neg (by omega)]); all_goals (with_reducible rfl)); simp only [Act.put, List.setIfInBounds_toArray, List.set_cons_zero, List.set_cons_succ]) | (refine Plan.pass (by rfl) ?_; simp only [Act.put, List.setIfInBounds_toArray, List.set_cons_zero, List.set_cons_succ]))
        refine Plan.ends ?_
        replace k := k.trans (K.keep_sub fun _ h => List.mem_cons_of_mem _ h)
        replace K := K.tail
        rw [← HN.out.2 HQ.out] at K k
        go_wp2_with fail
        go_roundw
        case rel => exact ⟨i + 1, by go_num, by omega, _, K, k⟩
        case measure => simp [intOf]; omega
      | true =>
        cases z with
        | true =>
          have hR' : R = false := by rw [← hR]; rfl
          have HQ := Lib.hid hR'
          clear hR hR'
          refine Plan.start (fun W => W.cell? ⟨gx, 1, none⟩ = some (.bool true) ∧ W.cell? ⟨gx, 2, none⟩ = some (.string av) ∧ W.cell? ⟨X, 0, none⟩ = some (.int .u32 (t.D : Int)) ∧ W.cell? ⟨X, 1, none⟩ = some (.string t.v)) [(0, true), (1, true), (2, true), (3, true), (4, true), (5, true), (6, true), (7, true), (8, false), (9, true), (10, true), (11, true), (12, true), (13, true), (14, true), (15, true), (16, true), (17, true), (18, true), (19, true)] (by kernel_rfl) (by kernel_rfl) (by kernel_rfl) (by kernel_rfl) ⟨cell_of_row _ _ 1 _ _ _ (K.drew.get 0 rfl), cell_of_row _ _ 2 _ _ _ (K.drew.get 0 rfl), cell_of_row _ _ 0 _ _ _ (K.drew.get 1 rfl), cell_of_row _ _ 1 _ _ _ (K.drew.get 1 rfl)⟩ ?_
          simp only [List.map_cons, List.map_nil, List.getElem?_toArray, List.getElem?_cons_zero, List.getElem?_cons_succ]
          replace k := k.trans K.keep_drew
          replace K := K.drew
          obtain ⟨w2, hw2⟩ : ∃ W, W = w1.drew := ⟨_, rfl⟩
          rw [← hw2] at K k ⊢
          clear hw2
          repeat (first | (refine Plan.take ?_ (by rfl) ?_ ?_; rotate_left; (· rintro w9 ⟨u0, u1, u2, u3⟩; go_simp; (try rw [if_neg (by omega)]); all_goals (with_reducible rfl)); simp only [Act.put, List.setIfInBounds_toArray, List.set_cons_zero, List.set_cons_succ]) | (refine Plan.pass (by rfl) ?_; simp only [Act.put, List.setIfInBounds_toArray, List.set_cons_zero, List.set_cons_succ]))
          refine Plan.call (by rfl) 134 _ ?_ (has_any t.D i hD hi30 w2) ?_
          · go_simp
          rintro r9 w3 ⟨rfl, h9⟩
          refine ⟨_, rfl, ⟨cell_of_row _ _ 1 _ _ _ ((K.on h9).get 0 rfl), cell_of_row _ _ 2 _ _ _ ((K.on h9).get 0 rfl), cell_of_row _ _ 0 _ _ _ ((K.on h9).get 1 rfl), cell_of_row _ _ 1 _ _ _ ((K.on h9).get 1 rfl)⟩, ?_⟩
          simp only [Act.put, List.setIfInBounds_toArray, List.set_cons_zero, List.set_cons_succ]
          replace k := k.trans (K.keep_on h9)
          replace K := K.on h9
          clear h9
          rw [hbit]
          repeat (first | (refine Plan.take ?_ (by rfl) ?_ ?_; rotate_left; (· rintro w9 ⟨u0, u1, u2, u3⟩; go_simp; (try rw [if_neg (by omega)]); all_goals (with_reducible rfl)); simp only [Act.put, List.setIfInBounds_toArray, List.set_cons_zero, List.set_cons_succ]) | (refine Plan.pass (by rfl) ?_; simp only [Act.put, List.setIfInBounds_toArray, List.set_cons_zero, List.set_cons_succ]))
          refine Plan.ends ?_
          replace k := k.trans (K.keep_sub fun _ h => List.mem_cons_of_mem _ h)
          replace K := K.tail
          rw [← HN.out.2 HQ.out] at K k
          go_wp2_with fail
          go_roundw
          case rel => exact ⟨i + 1, by go_num, by omega, _, K, k⟩
          case measure => simp [intOf]; omega
        | false =>
          by_cases hv : av = t.v
          · have hR' : R = true := by rw [← hR, decide_eq_true hv]; rfl
            have HQ := Lib.hid hR'
            clear hR hR'
            have e1 : (av == t.v) = true := by rw [hv]; exact (MapKept.bytes_beq _ _).2 rfl
            have e2 : (av.toList == t.v.toList) = true := by rw [hv]; exact beq_self_eq_true _
            clear hv
            refine Plan.start (fun W => W.cell? ⟨gx, 1, none⟩ = some (.bool true) ∧ W.cell? ⟨gx, 2, none⟩ = some (.string av) ∧ W.cell? ⟨X, 0, none⟩ = some (.int .u32 (t.D : Int)) ∧ W.cell? ⟨X, 1, none⟩ = some (.string t.v)) [(0, true), (1, true), (2, true), (3, true), (4, true), (5, true), (6, true), (7, true), (8, false), (9, true), (10, true), (11, true), (12, true), (13, true), (14, true), (15, true), (16, true), (17, true), (18, true), (19, true)] (by kernel_rfl) (by kernel_rfl) (by kernel_rfl) (by kernel_rfl) ⟨cell_of_row _ _ 1 _ _ _ (K.drew.get 0 rfl), cell_of_row _ _ 2 _ _ _ (K.drew.get 0 rfl), cell_of_row _ _ 0 _ _ _ (K.drew.get 1 rfl), cell_of_row _ _ 1 _ _ _ (K.drew.get 1 rfl)⟩ ?_
            simp only [List.map_cons, List.map_nil, List.getElem?_toArray, List.getElem?_cons_zero, List.getElem?_cons_succ]
            replace k := k.trans K.keep_drew
            replace K := K.drew
            obtain ⟨w2, hw2⟩ : ∃ W, W = w1.drew := ⟨_, rfl⟩
            rw [← hw2] at K k ⊢
            clear hw2
            repeat (first | (refine Plan.take ?_ (by rfl) ?_ ?_; rotate_left; (· rintro w9 ⟨u0, u1, u2, u3⟩; go_simp; (try rw [if_neg (by omega)]); all_goals (with_reducible rfl)); simp only [Act.put, List.setIfInBounds_toArray, List.set_cons_zero, List.set_cons_succ]) | (refine Plan.pass (by rfl) ?_; simp only [Act.put, List.setIfInBounds_toArray, List.set_cons_zero, List.set_cons_succ]))
            refine Plan.call (by rfl) 134 _ ?_ (has_any t.D i hD hi30 w2) ?_
            · go_simp
            rintro r9 w3 ⟨rfl, h9⟩
            refine ⟨_, rfl, ⟨cell_of_row _ _ 1 _ _ _ ((K.on h9).get 0 rfl), cell_of_row _ _ 2 _ _ _ ((K.on h9).get 0 rfl), cell_of_row _ _ 0 _ _ _ ((K.on h9).get 1 rfl), cell_of_row _ _ 1 _ _ _ ((K.on h9).get 1 rfl)⟩, ?_⟩
            simp only [Act.put, List.setIfInBounds_toArray, List.set_cons_zero, List.set_cons_succ]
            replace k := k.trans (K.keep_on h9)
            replace K := K.on h9
            clear h9
            rw [hbit]
            repeat (first | (refine Plan.take ?_ (by rfl) ?_ ?_; rotate_left; (· rintro w9 ⟨u0, u1, u2, u3⟩; go_simp; (try rw [if_neg (by omega)]); all_goals (with_reducible rfl)); simp only [Act.put, List.setIfInBounds_toArray, List.set_cons_zero, List.set_cons_succ]) | (refine Plan.pass (by rfl) ?_; simp only [Act.put, List.setIfInBounds_toArray, List.set_cons_zero, List.set_cons_succ]))
            refine Plan.ends ?_
            have HD := Lib.hid (do_go S g X mb sn sc bc i _ ba hn t w0 w3 F (_ :: T) ov1 hD ho (K.perm perm4) (sl.keep (k.trans (K.keep_perm perm4))) (bl.keep (k.trans (K.keep_perm perm4))) hi)
            go_wp2_with (first
              | (go_at_call 135; ((with_reducible refine HD.out.mono ?_); rintro r9 w4 ⟨rfl, ov2, K2, k2⟩; replace k := (k.trans (K.keep_perm perm4)).trans (k2.trans (K2.keep_sub (T' := sTs S g _ sn sc ba bc mb X (doS S t i) ov2 T) mem4)); replace K := (K2.perm perm4.symm).tail; clear K2 k2)))
            rw [← HN.out.1 HQ.out] at K k
            go_roundw
            case rel => exact ⟨i + 1, by go_num, by omega, _, K, k⟩
            case measure => simp [intOf]; omega
          · have hR' : R = false := by rw [← hR, decide_eq_false hv]; rfl
            have HQ := Lib.hid hR'
            clear hR hR'
            have e1 := ba_ne hv
            have e2 := bal_ne hv
            clear hv
            refine Plan.start (fun W => W.cell? ⟨gx, 1, none⟩ = some (.bool true) ∧ W.cell? ⟨gx, 2, none⟩ = some (.string av) ∧ W.cell? ⟨X, 0, none⟩ = some (.int .u32 (t.D : Int)) ∧ W.cell? ⟨X, 1, none⟩ = some (.string t.v)) [(0, true), (1, true), (2, true), (3, true), (4, true), (5, true), (6, true), (7, true), (8, false), (9, true), (10, true), (11, true), (12, true), (13, true), (14, true), (15, true), (16, true), (17, true), (18, true), (19, true)] (by kernel_rfl) (by kernel_rfl) (by kernel_rfl) (by kernel_rfl) ⟨cell_of_row _ _ 1 _ _ _ (K.drew.get 0 rfl), cell_of_row _ _ 2 _ _ _ (K.drew.get 0 rfl), cell_of_row _ _ 0 _ _ _ (K.drew.get 1 rfl), cell_of_row _ _ 1 _ _ _ (K.drew.get 1 rfl)⟩ ?_
            simp only [List.map_cons, List.map_nil, List.getElem?_toArray, List.getElem?_cons_zero, List.getElem?_cons_succ]
            replace k := k.trans K.keep_drew
            replace K := K.drew
            obtain ⟨w2, hw2⟩ : ∃ W, W = w1.drew := ⟨_, rfl⟩
            rw [← hw2] at K k ⊢
            clear hw2
            repeat (first | (refine Plan.take ?_ (by rfl) ?_ ?_; rotate_left; (· rintro w9 ⟨u0, u1, u2, u3⟩; go_simp; (try rw [if_neg (by omega)]); all_goals (with_reducible rfl)); simp only [Act.put, List.setIfInBounds_toArray, List.set_cons_zero, List.set_cons_succ]) | (refine Plan.pass (by rfl) ?_; simp only [Act.put, List.setIfInBounds_toArray, List.set_cons_zero, List.set_cons_succ]))
            refine Plan.call (by rfl) 134 _ ?_ (has_any t.D i hD hi30 w2) ?_
            · go_simp
            rintro r9 w3 ⟨rfl, h9⟩
            refine ⟨_, rfl, ⟨cell_of_row _ _ 1 _ _ _ ((K.on h9).get 0 rfl), cell_of_row _ _ 2 _ _ _ ((K.on h9).get 0 rfl), cell_of_row _ _ 0 _ _ _ ((K.on h9).get 1 rfl), cell_of_row _ _ 1 _ _ _ ((K.on h9).get 1 rfl)⟩, ?_⟩
            simp only [Act.put, List.setIfInBounds_toArray, List.set_cons_zero, List.set_cons_succ]
            replace k := k.trans (K.keep_on h9)
            replace K := K.on h9
            clear h9
            rw [hbit]
            repeat (first | (refine Plan.take ?_ (by rfl) ?_ ?_; rotate_left; (· rintro w9 ⟨u0, u1, u2, u3⟩; go_simp; (try rw [if_neg (by omega)]); all_goals (with_reducible rfl)); simp only [Act.put, List.setIfInBounds_toArray, List.set_cons_zero, List.set_cons_succ]) | (refine Plan.pass (by rfl) ?_; simp only [Act.put, List.setIfInBounds_toArray, List.set_cons_zero, List.set_cons_succ]))
            refine Plan.ends ?_
            replace k := k.trans (K.keep_sub fun _ h => List.mem_cons_of_mem _ h)
            replace K := K.tail
            rw [← HN.out.2 HQ.out] at K k
            go_wp2_with fail
            go_roundw
            case rel => exact ⟨i + 1, by go_num, by omega, _, K, k⟩
            case measure => simp [intOf]; omega
    · obtain rfl : i = sn := by omega
      have hiI : ¬ (i : Int) < (i : Int) := by omega
      go_wp2_with fail
      refine bodyPost_end (results_none rfl _ _ _) rfl ?_
      exact ⟨rfl, ov1, K, k⟩
/-- the result says whether P holds -/
def AnyPost (P : Prop) (r : Ending) : Prop := ∃ q : Bool, r = .returned (.bool q) ∧ (q = true ↔ P)
theorem any_yes {P : Prop} (h : P) : AnyPost P (.returned (.bool true)) := ⟨true, rfl, fun _ => h, fun _ => rfl⟩
theorem any_no {P : Prop} (h : ¬ P) : AnyPost P (.returned (.bool false)) := ⟨false, rfl, fun h => (by cases h), fun h2 => absurd h2 h⟩
set_option maxHeartbeats 8000000 in
set_option maxRecDepth 20000 in
theorem hasReads_any (S : List Stp) (g sn sc D : Nat) (sa : Option Addr) (v : ByteArray) (b m o : Value) (hn : sn ≤ 30) (hD : D < 2 ^ 30) (F : Nat → Prop) (w : World) (hg : w.heap[g]? = some (.cells #[.slice sa sn sc, b, m, o] 131 (0, 0))) (sl : PList w F sa sn sc S) :
    Calls Tryz.prog 109 #[.pointer (some ⟨g, 0, none⟩), .agg #[.int .u32 (D : Int), .string v]] w fun r w' => AnyPost (∃ i, isR S i ∧ D.testBit i = false) r ∧ Below w.heap.size w w' := by
  have hlen := sl.length
  obtain ⟨hcp, hcm⟩ := sl.cap
  unfold maxLen at hcm
  have HAT := Lib.hid (fun W (h : Below w.heap.size w W) i (hi : i < sn) => stp_at (sl.same h) i hi)
  have HAS := Lib.hid (fun i (hi : i ≤ 30) W => has_any D i hD hi W)
  have HNO := Lib.hid (fun (h : ∀ k a, k < sn → S[k]? = some a → a.reads = true → D.testBit k = true) => (show ¬ ∃ i, isR S i ∧ D.testBit i = false from fun ⟨i, ⟨a, ha, hr⟩, hd⟩ => by
    rw [h i a (by have := (List.getElem?_eq_some_iff.1 ha).1; omega) ha hr] at hd; cases hd))
  have HYES := Lib.hid (fun i a (ha : S[i]? = some a) (hr : a.reads = true) (hd : D.testBit i = false) => (show ∃ i, isR S i ∧ D.testBit i = false from ⟨i, ⟨a, ha, hr⟩, hd⟩))
  have K := (Env.start w).al (.cells #[.int .u32 (D : Int), .string v] 136)
  have hcG : ∀ W, Below w.heap.size w W → W.cell? ⟨g, 0, none⟩ = some (.slice sa sn sc) := fun W h => cell_of_row _ _ 0 _ _ _ ((h.block g (e_lt hg)).trans hg)
  have HG := Lib.hid hcG
  clear hcG
  have hcG := HG.out _ K.hb
  clear sl hlen
  go_enter Tryz.func109, Tryz.ntmps109
  go_upto_region 1 with fail
  generalize w.alloc (.cells #[.int .u32 (D : Int), .string v] 136) = w1 at *
  go_wp2_with fail
  clear hcG
  go_loopw [12] (fun x wr => ∃ i : Nat, x = .int .i64 (i : Int) ∧ i ≤ sn ∧ RowKit.Hid (∀ k a, k < i → S[k]? = some a → a.reads = true → D.testBit k = true) ∧ Env w wr [aT w.heap.size D v]) (fun x _ => sn - (intOf x).toNat)
  case atStart => exact ⟨0, rfl, by omega, Lib.hid (fun k _ hk => absurd hk (Nat.not_lt_zero _)), K⟩
  case round =>
    clear K
    obtain ⟨i, rfl, hi', hall, K⟩ := hrel
    by_cases hi : i < sn
    · obtain ⟨x, a, rfl, ha, c0, c1, c2, c3, c4⟩ := HAT.out _ K.hb i hi
      have hiI : (i : Int) < (sn : Int) := by omega
      have HB := HAS.out i (by omega)
      have HA := Lib.hid ha
      have HY := Lib.hid (HYES.out i a ha)
      have HN : (a.reads = true → D.testBit i = true) → RowKit.Hid (∀ k b, k < i + 1 → S[k]? = some b → b.reads = true → D.testBit k = true) := fun hf => Lib.hid (fun k b hk hb hr => by
        rcases Nat.lt_or_ge k i with h9 | h9
        · exact hall.out k b h9 hb hr
        · obtain rfl : k = i := by omega
          rw [HA.out] at hb
          cases hb
          exact hf hr)
      generalize D.testBit i = z at *
      clear ha HA HYES HNO HAT
      obtain ⟨ay, ar, av, af, au⟩ := a
      simp only at c0 c1 c2 c3 c4 HN HY
      go_upto_region 4 with fail
      replace K := K.al (.cells #[.int .i64 ay, .bool ar, .string av, .int .i64 af, .int .i64 au] 94)
      obtain ⟨gx, hg9⟩ : ∃ gx, wr.heap.size = gx := ⟨_, rfl⟩
      rw [hg9] at K
      simp only [hg9]
      generalize wr.alloc (.cells #[.int .i64 ay, .bool ar, .string av, .int .i64 af, .int .i64 au] 94) = w2 at *
      clear c0 c1 c2 c3 c4 hg9
      obtain ⟨c0, c1, c2, c3, c4⟩ := stp_cells (K.get 0 rfl)
      have d0 := cell_of_row _ _ 0 _ _ _ (K.get 1 rfl)
      cases ar with
      | false =>
        replace HN := HN (fun h => by cases h)
        go_wp2_with fail
        go_roundw
        case rel => exact ⟨i + 1, by go_num, by omega, HN, K.tail⟩
        case measure => simp [intOf]; omega
      | true =>
        cases z with
        | true =>
          replace HN := HN (fun _ => rfl)
          have HC := Lib.hid HB
          clear HB
          go_wp2_with (first
            | (go_at_call 134; ((with_reducible refine (HC.out _).mono ?_); rintro r9 w2 ⟨rfl, h9⟩; replace K := K.on h9; clear h9)))
          go_roundw
          case rel => exact ⟨i + 1, by go_num, by omega, HN, K.tail⟩
          case measure => simp [intOf]; omega
        | false =>
          have HR := Lib.hid (HY.out rfl rfl)
          have HC := Lib.hid HB
          clear HB HN
          go_wp2_with (first
            | (go_at_call 134; ((with_reducible refine (HC.out _).mono ?_); rintro r9 w2 ⟨rfl, h9⟩; replace K := K.on h9; clear h9)))
          go_ret
          exact ⟨any_yes HR.out, K.hb⟩
    · obtain rfl : i = sn := by omega
      have hiI : ¬ (i : Int) < (i : Int) := by omega
      have HR := Lib.hid (HNO.out hall.out)
      clear HAT
      go_wp2_with fail
      go_ret
      exact ⟨any_no HR.out, K.hb⟩
abbrev oTs (S : List Stp) (g : Nat) (sa : Option Addr) (sn sc : Nat) (ba : Option Addr) (bc mb : Nat) (t : St) (ov : Value) (T : List Thing) : List Thing := sT g sa sn sc ba bc mb ov :: Env.lst IR ov t.o.length (serO S t.o) :: T
def OGo (S : List Stp) (g : Nat) (sa : Option Addr) (sn sc : Nat) (ba : Option Addr) (bc mb : Nat) (s t : St) (w0 w : World) (F : Nat → Prop) (T : List Thing) (ov : Value) (w' : World) : Prop :=
  ∃ ov', Env w0 w' (oTs S g sa sn sc ba bc mb t ov' T) ∧ Keep w0 F w (oTs S g sa sn sc ba bc mb s ov T) w' (oTs S g sa sn sc ba bc mb t ov' T)
set_option maxHeartbeats 8000000 in
set_option maxRecDepth 20000 in
theorem writeRest_any (S : List Stp) (g mb sn sc bc : Nat) (sa ba : Option Addr) (hn : sn ≤ 30) (v0 : ByteArray) (s : St) (h0 : Goes S ⟨0, v0, []⟩ s) (hr : ∀ i, isR S i → s.D.testBit i = true) (w0 w : World) (F : Nat → Prop) (T : List Thing) (ov : Value)
    (K0 : Env w0 w (oTs S g sa sn sc ba bc mb s ov T)) (sl : PList w (Quiet w0 F w (oTs S g sa sn sc ba bc mb s ov T)) sa sn sc S) (bl : TList UR w (Quiet w0 F w (oTs S g sa sn sc ba bc mb s ov T)) ba sn bc (befL S)) :
    Calls Tryz.prog 110 #[.pointer (some ⟨g, 0, none⟩), .agg #[.int .u32 (s.D : Int), .string s.v]] w fun r w' => r = .returned (.tuple #[]) ∧ OGo S g sa sn sc ba bc mb s (loopS S restP s sn) w0 w F T ov w' := by
  have hlen := sl.length
  obtain ⟨hcp, hcm⟩ := sl.cap
  unfold maxLen at hcm
  have K := K0.al (.cells #[.int .u32 (s.D : Int), .string s.v] 136)
  have k := K0.keep_al (F := F) (.cells #[.int .u32 (s.D : Int), .string s.v] 136)
  have hcG := cell_of_row _ _ 0 _ _ _ (K.get 1 rfl)
  have HL := Lib.hid (fun j => goes_lim (h0.trans (rest_goes s j hr).1))
  clear K0 hr h0
  go_enter Tryz.func110, Tryz.ntmps110
  go_upto_region 1 with fail
  generalize w.alloc (.cells #[.int .u32 (s.D : Int), .string s.v] 136) = w1 at *
  go_wp2_with fail
  clear hcG
  go_loopw [11] (fun x wr => ∃ i : Nat, x = .int .i64 (i : Int) ∧ i ≤ sn ∧ ∃ ov1, Env w0 wr (sTs S g sa sn sc ba bc mb w.heap.size (loopS S restP s i) ov1 T) ∧ Keep w0 F w (oTs S g sa sn sc ba bc mb s ov T) wr (sTs S g sa sn sc ba bc mb w.heap.size (loopS S restP s i) ov1 T)) (fun x _ => sn - (intOf x).toNat)
  case atStart => exact ⟨0, rfl, by omega, ov, K, k⟩
  case round =>
    clear K k
    obtain ⟨i, rfl, hi', ov1, K, k⟩ := hrel
    by_cases hi : i < sn
    · obtain ⟨x, a, rfl, ha, c0, c1, c2, c3, c4⟩ := stp_at (sl.keep k) i hi
      have hiI : (i : Int) < (sn : Int) := by omega
      have hi30 : i ≤ 30 := by omega
      have HN := Lib.hid (@loop_next S restP s i a ha)
      obtain ⟨hD, ho⟩ := HL.out i
      rw [hlen] at hD ho
      replace hD := pow_lt30 hn hD
      replace ho : (loopS S restP s i).o.length ≤ 1000 := by omega
      generalize loopS S restP s i = t at *
      generalize hR : restP t i a = R at *
      unfold restP at hR
      have HC := Lib.hid (fun W => has_any t.D i hD hi30 W)
      clear ha
      obtain ⟨ay, ar, av, af, au⟩ := a
      simp only at c0 c1 c2 c3 c4 hR
      go_upto_region 4 with fail
      have k9 := K.keep_al (F := F) (.cells #[.int .i64 ay, .bool ar, .string av, .int .i64 af, .int .i64 au] 94)
      have K9 := K.al (.cells #[.int .i64 ay, .bool ar, .string av, .int .i64 af, .int .i64 au] 94)
      replace k := k.trans k9
      clear k9 K
      have K := K9
      clear K9
      obtain ⟨gx, hg⟩ : ∃ gx, wr.heap.size = gx := ⟨_, rfl⟩
      rw [hg] at K k
      simp only [hg]
      generalize wr.alloc (.cells #[.int .i64 ay, .bool ar, .string av, .int .i64 af, .int .i64 au] 94) = w1 at *
      clear c0 c1 c2 c3 c4 hg
      obtain ⟨c0, c1, c2, c3, c4⟩ := stp_cells (K.get 0 rfl)
      have d0 := cell_of_row _ _ 0 _ _ _ (K.get 1 rfl)
      generalize hbit : t.D.testBit i = z at *
      clear hbit
      cases z with
      | true =>
        have hR' : R = false := by rw [← hR]; simp
        have HQ := Lib.hid hR'
        clear hR hR'
        by_cases hau : au = 9223372036854775807
        · subst hau
          go_wp2_with (first
            | (go_at_call 134; ((with_reducible refine (HC.out _).mono ?_); rintro r9 w3 ⟨rfl, h9⟩; replace k := k.trans (K.keep_on h9); replace K := K.on h9; clear h9)))
          replace k := k.trans (K.keep_sub fun _ h => List.mem_cons_of_mem _ h)
          replace K := K.tail
          rw [← HN.out.2 HQ.out] at K k
          go_roundw
          case rel => exact ⟨i + 1, by go_num, by omega, _, K, k⟩
          case measure => simp [intOf]; omega
        · go_wp2_with (first
            | (go_at_call 134; ((with_reducible refine (HC.out _).mono ?_); rintro r9 w3 ⟨rfl, h9⟩; replace k := k.trans (K.keep_on h9); replace K := K.on h9; clear h9)))
          replace k := k.trans (K.keep_sub fun _ h => List.mem_cons_of_mem _ h)
          replace K := K.tail
          rw [← HN.out.2 HQ.out] at K k
          go_roundw
          case rel => exact ⟨i + 1, by go_num, by omega, _, K, k⟩
          case measure => simp [intOf]; omega
      | false =>
        by_cases hau : au = 9223372036854775807
        · have hR' : R = false := by rw [← hR, hau]; rfl
          have HQ := Lib.hid hR'
          clear hR hR'
          subst hau
          go_wp2_with (first
            | (go_at_call 134; ((with_reducible refine (HC.out _).mono ?_); rintro r9 w3 ⟨rfl, h9⟩; replace k := k.trans (K.keep_on h9); replace K := K.on h9; clear h9)))
          replace k := k.trans (K.keep_sub fun _ h => List.mem_cons_of_mem _ h)
          replace K := K.tail
          rw [← HN.out.2 HQ.out] at K k
          go_roundw
          case rel => exact ⟨i + 1, by go_num, by omega, _, K, k⟩
          case measure => simp [intOf]; omega
        · have hR' : R = true := by rw [← hR]; simp [nv, hau]
          have HQ := Lib.hid hR'
          clear hR hR'
          go_upto_region 5 with (first
            | (go_at_call 134; ((with_reducible refine (HC.out _).mono ?_); rintro r9 w3 ⟨rfl, h9⟩; replace k := k.trans (K.keep_on h9); replace K := K.on h9; clear h9)))
          have HD := Lib.hid (do_go S g w.heap.size mb sn sc bc i _ ba hn t w0 _ F (_ :: T) ov1 hD ho (K.perm perm4) (sl.keep (k.trans (K.keep_perm perm4))) (bl.keep (k.trans (K.keep_perm perm4))) hi)
          go_wp2_with (first
            | (go_at_call 135; ((with_reducible refine HD.out.mono ?_); rintro r9 w4 ⟨rfl, ov2, K2, k2⟩; replace k := (k.trans (K.keep_perm perm4)).trans (k2.trans (K2.keep_sub (T' := sTs S g _ sn sc ba bc mb w.heap.size (doS S t i) ov2 T) mem4)); replace K := (K2.perm perm4.symm).tail; clear K2 k2)))
          rw [← HN.out.1 HQ.out] at K k
          go_roundw
          case rel => exact ⟨i + 1, by go_num, by omega, _, K, k⟩
          case measure => simp [intOf]; omega
    · obtain rfl : i = sn := by omega
      have hiI : ¬ (i : Int) < (i : Int) := by omega
      go_wp2_with fail
      refine bodyPost_end (results_none rfl _ _ _) rfl ?_
      exact ⟨rfl, ov1, K.tail, k.trans (K.keep_sub fun _ h => List.mem_cons_of_mem _ h)⟩
end Go.Proofs.YtnmhnjjehglcfaaGreat.Ents
