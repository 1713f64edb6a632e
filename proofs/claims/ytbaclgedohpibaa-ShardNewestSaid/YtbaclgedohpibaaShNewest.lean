
/- The walk of ShardNewest, under the program's contracts. -/
import Derived.Test.YtbaclgedohpibaaShMade
namespace Go.Proofs.Ytbaclgedohpibaa.Ents
open Go.RowKit Plan EntMath
/-- five numbers in an array -/
abbrev arr (f : Nat → Int) : Obj := .cells #[.int .i64 (f 0), .int .i64 (f 1), .int .i64 (f 2), .int .i64 (f 3), .int .i64 (f 4)] 45
def upd (f : Nat → Int) (i : Nat) (v : Int) : Nat → Int := fun t => if t = i then v else f t
structure Tab (W : World) (A : Nat) (f h : Nat → Int) : Prop where
  b : W.heap[A]? = some (arr f)
  k : W.heap[A + 1]? = some (arr h)
theorem arr_at {W : World} {A : Nat} {f : Nat → Int} (h : W.heap[A]? = some (arr f)) (i : Nat) (hi : i < 5) : W.cell? ⟨A, i, none⟩ = some (.int .i64 (f i)) ∧ W.frozen? ⟨A, i, none⟩ = false := by
  refine ⟨?_, e_free h i⟩
  match i, hi with
  | 0, _ => exact cell_of_row _ _ 0 _ _ _ h
  | 1, _ => exact cell_of_row _ _ 1 _ _ _ h
  | 2, _ => exact cell_of_row _ _ 2 _ _ _ h
  | 3, _ => exact cell_of_row _ _ 3 _ _ _ h
  | 4, _ => exact cell_of_row _ _ 4 _ _ _ h
theorem arr_set {W : World} {A : Nat} {f : Nat → Int} {v : Int} (h : W.heap[A]? = some (arr f)) (i : Nat) (hi : i < 5) : (W.setCell ⟨A, i, none⟩ (.int .i64 v)).heap[A]? = some (arr (upd f i v)) := by
  rw [sc_row h]
  match i, hi with
  | 0, _ => rfl
  | 1, _ => rfl
  | 2, _ => rfl
  | 3, _ => rfl
  | 4, _ => rfl
section
variable {W : World} {A : Nat} {f h : Nat → Int}
theorem Tab.on (t : Tab W A f h) {W' : World} (hb : Below W.heap.size W W') : Tab W' A f h := ⟨e_on hb t.b (e_lt t.b), e_on hb t.k (e_lt t.k)⟩
theorem Tab.al (t : Tab W A f h) (o : Obj) : Tab (W.alloc o) A f h := ⟨e_al t.b o, e_al t.k o⟩
theorem Tab.next (t : Tab W A f h) {g : Nat} (hg : g < A) {W' : World} (hw : W.grownBy W' (some g)) : Tab W' A f h := ⟨ent_row_grown hw t.b (by omega), ent_row_grown hw t.k (by omega)⟩
theorem Tab.atb (t : Tab W A f h) (i : Nat) (hi : i < 5) : W.cell? ⟨A, i, none⟩ = some (.int .i64 (f i)) ∧ W.frozen? ⟨A, i, none⟩ = false := arr_at t.b i hi
theorem Tab.atk (t : Tab W A f h) (i : Nat) (hi : i < 5) : W.cell? ⟨A + 1, i, none⟩ = some (.int .i64 (h i)) ∧ W.frozen? ⟨A + 1, i, none⟩ = false := arr_at t.k i hi
theorem Tab.setb (t : Tab W A f h) {i : Nat} {v : Int} (hi : i < 5) : Tab (W.setCell ⟨A, i, none⟩ (.int .i64 v)) A (upd f i v) h :=
  ⟨arr_set t.b i hi, (Below.heap_setCell W ⟨A, i, none⟩ _ (A + 1) (by show A + 1 ≠ A; omega)).trans t.k⟩
theorem Tab.setk (t : Tab W A f h) {i : Nat} {v : Int} (hi : i < 5) : Tab (W.setCell ⟨A + 1, i, none⟩ (.int .i64 v)) A f (upd h i v) :=
  ⟨(Below.heap_setCell W ⟨A + 1, i, none⟩ _ A (by show A ≠ A + 1; omega)).trans t.b, arr_set t.k i hi⟩
end
theorem sm_setCell (w : World) (x : Nat) (j : Nat) (v : Value) : w.grownBy (w.setCell ⟨x, j, none⟩ v) (some x) :=
  ⟨rfl, rfl, rfl, Nat.le_of_eq (by simp [World.setCell]), fun i _ hne => Below.heap_setCell w ⟨x, j, none⟩ v i (fun e => hne (by rw [e]))⟩
section
variable {W W0 : World} {B N base g : Nat} {L : List Int} {k n c : Nat} {a : Option Addr} {S : List Ent}
theorem Sit.cell (h : Sit W W0 B N base g L k a n c S) {r j : Nat} (hg : g < r) (hr : r < B) (v : Value) : Sit (W.setCell ⟨r, j, none⟩ v) W0 B N base g L k a n c S :=
  ⟨h.l.on (Same.setCell (p := ⟨r, j, none⟩) (fun h9 => by have h8 : B ≤ r := h9.1; omega) v), dice_far h.d (sm_setCell W r j v) hg, by have := h.s; simpa [World.setCell] using this, h.b.setCell (by show base ≤ r; have := dice_base h.d; omega) v⟩
theorem Sit.new (h : Sit W W0 B N base g L k a n c S) {a' : Option Addr} {n' c' : Nat} {S' : List Ent} (l : EList W (From B) a' n' c' S') : Sit W W0 B W.heap.size base g L k a' n' c' S' := ⟨l.cut, h.d, Nat.le_refl _, h.b⟩
end
/-- what the two arrays say of a shard -/
def Tops (S : List Ent) (f h : Nat → Int) : Prop := ∀ b : Nat, b < 5 → (lookE S b = none ∧ f b = 0) ∨ ∃ x, lookE S b = some x ∧ f b = x.version ∧ h b = x.kind
theorem tops_nil : Tops [] (fun _ => 0) (fun _ => 0) := fun _ _ => .inl ⟨rfl, rfl⟩
theorem tops_up {S : List Ent} {f h : Nat → Int} {i : Nat} {k v m z o : Int} (hv : validB S = true) (ht : Tops S f h) (he : okE ⟨i, k, v, m, z, o⟩ = true) (hlt : f i < v) : Tops (installL S ⟨i, k, v, m, z, o⟩) (upd f i v) (upd h i k) := by
  intro b hb
  rw [look_install hv he]
  by_cases hib : i = b
  · subst hib
    rw [if_pos rfl]
    refine .inr ⟨⟨i, k, v, m, z, o⟩, ?_, by simp [upd], by simp [upd]⟩
    rcases ht i hb with ⟨h1, h2⟩ | ⟨x, h1, h2, h3⟩
    · rw [h1]; rfl
    · rw [h1]
      show (if x.version < v then _ else _) = _
      rw [if_pos (by omega)]
  · rw [if_neg (by show ¬ (i : Int) = (b : Int); omega)]
    have hu : ∀ (f : Nat → Int) v, upd f i v b = f b := fun f v => if_neg (fun h9 => hib h9.symm)
    rw [hu, hu]
    exact ht b hb
theorem tops_keep {S : List Ent} {f h : Nat → Int} {i : Nat} {k v m z o : Int} (hv : validB S = true) (ht : Tops S f h) (he : okE ⟨i, k, v, m, z, o⟩ = true) (hlt : ¬ f i < v) : Tops (installL S ⟨i, k, v, m, z, o⟩) f h := by
  intro b hb
  rw [look_install hv he]
  by_cases hib : i = b
  · subst hib
    rw [if_pos rfl]
    rcases ht i hb with ⟨h1, h2⟩ | ⟨x, h1, h2, h3⟩
    · have := (ok_iff.1 he).2.1
      simp only at this
      omega
    · refine .inr ⟨x, ?_, h2, h3⟩
      rw [h1]
      show (if x.version < v then _ else _) = _
      rw [if_neg (by omega)]
  · rw [if_neg (by show ¬ (i : Int) = (b : Int); omega)]
    exact ht b hb
theorem tops_reloc {S : List Ent} {f h : Nat → Int} {c v fz fo tz to m : Int} (hv : validB S = true) (ht : Tops S f h) : Tops (relocL S c v fz fo tz to m) f h := by
  cases hm : moves S c v fz fo tz to m
  · rw [reloc_same hv hm]; exact ht
  · intro b hb
    cases hx : lookE S c with
    | none =>
      unfold moves at hm
      rw [find_look hv, hx] at hm
      cases hm
    | some x =>
      rw [look_reloc hv hx hm]
      by_cases hcb : c = (b : Int)
      · rw [if_pos hcb]
        rw [hcb] at hx
        rcases ht b hb with ⟨h1, h2⟩ | ⟨y, h1, h2, h3⟩
        · rw [hx] at h1; cases h1
        · rw [hx] at h1
          obtain rfl := Option.some.inj h1
          exact .inr ⟨_, rfl, h2, h3⟩
      · rw [if_neg hcb]
        exact ht b hb
theorem row_at {w : World} {a : Option Addr} {l c : Nat} {zs : List Int} (h : IsRow .u8 w a l c zs) {j : Nat} (hj : j < l) : ∃ y M, a = some y ∧ (∀ W, Below w.heap.size w W → W.cell? (y.add j) = some (.int .u8 M)) ∧ (Lit.int .u8 M).wf = true := by
  rcases h with ⟨_, rfl, _⟩ | ⟨x, rfl, hl, hm, hz, hc, hw⟩
  · exact absurd hj (Nat.not_lt_zero _)
  · refine ⟨x, zs.getD j 0, rfl, fun W hb => ?_, ?_⟩
    · have h1 := hc j (by omega)
      exact (hb.cell (World.block_lt_of_cell? w _ h1)).trans h1
    · have hj2 : j < zs.length := by omega
      have he : zs.getD j 0 = zs[j] := by rw [List.getD_eq_getElem?_getD, List.getElem?_eq_getElem hj2]; rfl
      rw [he]
      exact hw _ (List.getElem_mem hj2)
theorem tops_some {S : List Ent} {f h : Nat → Int} {b : Nat} {x : Ent} (ht : Tops S f h) (hv : validB S = true) (hb : b < 5) (hx : lookE S (b : Int) = some x) : f b = x.version ∧ h b = x.kind ∧ 1 ≤ x.version := by
  rcases ht b hb with ⟨h1, h2⟩ | ⟨y, h1, h2, h3⟩
  · rw [hx] at h1; cases h1
  · rw [hx] at h1
    obtain rfl := Option.some.inj h1
    exact ⟨h2, h3, (ok_iff.1 ((valid_iff.1 hv).1 x (look_mem hx))).2.1⟩
theorem tops_none {S : List Ent} {f h : Nat → Int} {b : Nat} (ht : Tops S f h) (hb : b < 5) (hx : lookE S (b : Int) = none) : f b = 0 := by
  rcases ht b hb with ⟨h1, h2⟩ | ⟨y, h1, h2, h3⟩
  · exact h2
  · rw [hx] at h1; cases h1
theorem mv_cases (j m : Nat) : j < m ∨ ¬ j < m := Nat.lt_or_ge j m |>.imp id (fun h => by omega)
theorem blk_nat {eb : Int} (h : 0 ≤ eb ∧ eb ≤ 4) : ∃ i : Nat, eb = (i : Int) ∧ i < 5 := ⟨eb.toNat, by omega, by omega⟩
set_option maxHeartbeats 16000000 in
set_option maxRecDepth 20000 in
theorem shNewest_any (H : ShardOk) (a : Option Addr) (len cap : Nat) (zs : List Int) (ma : Option Addr) (ml mc : Nat) (ms : List Int) (w : World) (hrow : IsRow .i64 w a len cap zs) (hmv : IsRow .u8 w ma ml mc ms) :
    Calls Try.prog 5 #[.slice a len cap, .slice ma ml mc] w fun r w' => r = .returned (.bool true) ∧ Below w.heap.size w w' := by
  have hli := light_any a len cap w
  by_cases hlen : (len : Int) ≤ 300
  · rw [decide_eq_true hlen] at hli
    by_cases hml : (ml : Int) ≤ 60
    · have hmlI : ¬ (60 : Int) < (ml : Int) := by omega
      have hml0 : decide ((60 : Int) < (ml : Int)) = false := by simpa using hmlI
      have hml1 : decide (60 < ml) = false := by simp; omega
      have HMV := Lib.hid (fun j (hj : j < ml) => row_at hmv hj)
      have hro := roll_any a len cap zs w hrow (by omega)
      have hzl : (zs.take len).length ≤ 100000 := by rw [List.length_take]; omega
      generalize zs.take len = L at hro hzl
      unfold RollPost at hro
      have HR := Lib.hid hro
      have HLI := Lib.hid hli
      clear hro hli hmv
      go_enter Try.func5, Try.ntmps5
      go_wp2_with (first
        | (go_at_call 10; ((with_reducible refine HLI.out.mono ?_); rintro e w0 ⟨rfl, rfl⟩))
        | (go_at_call 11; ((with_reducible refine HR.out.mono ?_); rintro e w1 ⟨g, rfl, hd1, hb1⟩)))
      have hgB := dice_lt hd1
      have hgb := dice_base hd1
      have hs1 := hb1.size
      have d0 := ent_dice_alloc (ent_dice_alloc hd1 (arr (fun _ => 0))) (arr (fun _ => 0))
      have T0 : Tab ((w1.alloc (arr (fun _ => 0))).alloc (arr (fun _ => 0))) w1.heap.size (fun _ => 0) (fun _ => 0) := ⟨heap_first w1 _ _, heap_second w1 _ _⟩
      have b0 : Below w.heap.size w ((w1.alloc (arr (fun _ => 0))).alloc (arr (fun _ => 0))) := (hb1.alloc hb1.size _).alloc (hb1.alloc hb1.size _).size _
      have z0 : ((w1.alloc (arr (fun _ => 0))).alloc (arr (fun _ => 0))).heap.size = w1.heap.size + 2 := by simp only [World.size_alloc]
      obtain ⟨A, hA⟩ : ∃ A, A = w1.heap.size := ⟨_, rfl⟩
      obtain ⟨B, hB⟩ : ∃ B, B = A + 2 := ⟨_, rfl⟩
      rw [← hA] at hgB hs1 T0 z0
      have sB : B ≤ ((w1.alloc (arr (fun _ => 0))).alloc (arr (fun _ => 0))).heap.size := by omega
      generalize hW0 : (w1.alloc (arr (fun _ => 0))).alloc (arr (fun _ => 0)) = W0 at *
      rw [← hA]
      clear hA hW0 z0
      go_loopw [6, 9] (fun v c wr => ∃ (j k : Nat) (S : List Ent) (a : Option Addr) (n d : Nat) (f h : Nat → Int), c = .int .i64 (j : Int) ∧ j ≤ 40 ∧ v = .slice a n d ∧ EList wr (From B) a n d S ∧ validB S = true ∧ n ≤ 2 * j ∧ k ≤ 6 * j ∧ Dice wr w.heap.size g L k ∧ B ≤ wr.heap.size ∧ Below w.heap.size w wr ∧ Tab wr A f h ∧ Tops S f h) (fun _ c _ => 40 - (intOf c).toNat)
      case atStart => exact ⟨0, 0, [], none, 0, 0, _, _, rfl, by omega, rfl, EList.nil _ _, rfl, by omega, by omega, d0, sB, b0, T0, tops_nil⟩
      case round =>
        obtain ⟨j, k, S, sa, n, d, f, h, rfl, hj, rfl, hl, hv, hn, hk, hd, hs, hb, ht, htp⟩ := hrel
        have hn4 : n ≤ 1000 := by omega
        have HV := Lib.hid hv
        have HT := Lib.hid htp
        clear d0 T0 b0 sB hv htp
        by_cases hlt : j < 40
        · have hjI : (j : Int) < 40 := by omega
          have hrs := rest_dice wr w.heap.size g L k hd hzl (by omega)
          have hk6 := stp6_le L k
          have hgA : g < A := by omega
          have hgA1 : g < A + 1 := by omega
          have S4 : Sit wr.drew w B wr.heap.size w.heap.size g L k sa n d S := ⟨(show EList wr.drew (From B) sa n d S from hl.on ⟨Nat.le_refl _, fun _ _ _ => rfl⟩).cut, dice_drew hd, Nat.le_refl _, hb.drew⟩
          have T4 : Tab wr.drew A f h := ⟨ht.b, ht.k⟩
          have hBN0 : B ≤ wr.heap.size := hs
          rcases rest_cases L.length k with hz | hz
          · rw [hz] at hrs
            have HRS := Lib.hid hrs
            clear hrs hd hl hb hz ht hs
            generalize wr.heap.size = N at *
            generalize wr.drew = wd at *
            go_wp2_with (first
              | (go_at_call 12; ((with_reducible refine HRS.out.mono ?_); rintro r9 w2 ⟨rfl, rfl⟩)))
            have HTT := HT.out
            go_loopw [13] (fun c wz => ∃ b : Nat, c = .int .i64 (b : Int) ∧ b ≤ 5 ∧ Below w2.heap.size w2 wz) (fun c _ => 5 - (intOf c).toNat)
            case atStart => exact ⟨0, rfl, by omega, Below.refl _ _⟩
            case round =>
              obtain ⟨b, rfl, hb5, hbz⟩ := hrel
              have SZ := S4.on hbz
              have TZ := T4.on hbz
              by_cases hlb : b < 5
              · have hbI : (b : Int) < 5 := by omega
                clear S4 T4
                go_wp2_with (first
                  | (go_at_call 20; ((with_reducible refine (sh_find H (b : Int) _ SZ.from' hn4 HV.out).mono ?_); rintro r9 w5 (⟨xb, xk, xv, xm, xz, xo, hx, rfl, h5⟩ | ⟨hx, rfl, h5⟩) <;> (first | (have hx9 : lookE S (b : Int) = some ⟨xb, xk, xv, xm, xz, xo⟩ := hx; obtain ⟨f1, f2, f3⟩ := tops_some HTT HV.out hlb hx9; try simp only at f1 f2 f3; have t6 := (TZ.on h5).al (entRow xb xk xv xm xz xo); have b6 := (hbz.trans (h5.mono hbz.size)).alloc (hbz.trans (h5.mono hbz.size)).size (entRow xb xk xv xm xz xo); have x6 := heap_alloc_new w5 (entRow xb xk xv xm xz xo); obtain ⟨cA, -⟩ := t6.atb b hlb; obtain ⟨cK, -⟩ := t6.atk b hlb; rw [f1] at cA; rw [f2] at cK; clear hx hx9 f1 f2 HTT) | (have f1 := tops_none HTT hlb hx; have t6 := (TZ.on h5).al (entRow 0 0 0 0 0 0); have b6 := (hbz.trans (h5.mono hbz.size)).alloc (hbz.trans (h5.mono hbz.size)).size (entRow 0 0 0 0 0 0); have x6 := heap_alloc_new w5 (entRow 0 0 0 0 0 0); obtain ⟨cA, -⟩ := t6.atb b hlb; obtain ⟨cK, -⟩ := t6.atk b hlb; rw [f1] at cA; clear hx f1 HTT)))))
                · have g1 : decide (0 < xv) = true := by simp; omega
                  refine Plan.start (fun W => Six W w5.heap.size xb xk xv xm xz xo ∧ W.cell? ⟨A, b, none⟩ = some (.int .i64 xv) ∧ W.cell? ⟨A + 1, b, none⟩ = some (.int .i64 xk)) [(0, true), (1, true), (2, true), (3, true), (4, true), (5, true), (6, true), (7, true), (8, true), (9, true), (10, true), (11, true), (12, true), (13, true), (14, true), (15, true), (16, true), (17, true), (18, true), (19, true), (20, true), (21, true), (22, true), (23, true), (24, true)] (by kernel_rfl) (by kernel_rfl) (by kernel_rfl) (by kernel_rfl) ⟨entry_row x6, cA, cK⟩ ?_
                  simp only [List.map_cons, List.map_nil, List.getElem?_toArray, List.getElem?_cons_zero, List.getElem?_cons_succ]
                  repeat (first | (refine Plan.take ?_ (by rfl) ?_ ?_; rotate_left; (· rintro w9 ⟨⟨u0, u1, u2, u3, u4, u5⟩, u6, u7⟩; go_simp; (try rw [if_neg (by omega)]); all_goals (with_reducible rfl)); simp only [Act.put, List.setIfInBounds_toArray, List.set_cons_zero, List.set_cons_succ]) | (refine Plan.pass (by rfl) ?_; simp only [Act.put, List.setIfInBounds_toArray, List.set_cons_zero, List.set_cons_succ]))
                  refine Plan.ends ?_
                  have b7 := b6.drew
                  clear cA cK x6 t6 b6
                  go_wp2_with fail
                  go_roundw
                  case rel => exact ⟨b + 1, by go_num, by omega, b7⟩
                  case measure => simp [intOf]; omega
                · refine Plan.start (fun W => Six W w5.heap.size 0 0 0 0 0 0 ∧ W.cell? ⟨A, b, none⟩ = some (.int .i64 0) ∧ W.cell? ⟨A + 1, b, none⟩ = some (.int .i64 (h b))) [(0, true), (1, true), (2, true), (3, true), (4, true), (5, true), (6, true), (7, true), (8, true), (9, true), (10, true), (11, true), (12, true), (13, true), (14, true), (15, true), (16, true), (17, true), (18, true), (19, true), (20, true), (21, true), (22, true), (23, true), (24, true)] (by kernel_rfl) (by kernel_rfl) (by kernel_rfl) (by kernel_rfl) ⟨entry_row x6, cA, cK⟩ ?_
                  simp only [List.map_cons, List.map_nil, List.getElem?_toArray, List.getElem?_cons_zero, List.getElem?_cons_succ]
                  repeat (first | (refine Plan.take ?_ (by rfl) ?_ ?_; rotate_left; (· rintro w9 ⟨⟨u0, u1, u2, u3, u4, u5⟩, u6, u7⟩; go_simp; (try rw [if_neg (by omega)]); all_goals (with_reducible rfl)); simp only [Act.put, List.setIfInBounds_toArray, List.set_cons_zero, List.set_cons_succ]) | (refine Plan.pass (by rfl) ?_; simp only [Act.put, List.setIfInBounds_toArray, List.set_cons_zero, List.set_cons_succ]))
                  refine Plan.ends ?_
                  have b7 := b6.drew
                  clear cA cK x6 t6 b6
                  go_wp2_with fail
                  go_roundw
                  case rel => exact ⟨b + 1, by go_num, by omega, b7⟩
                  case measure => simp [intOf]; omega
              · obtain rfl : b = 5 := by omega
                have HVD := Lib.hid (H.valid _ S sa n d wr SZ.from' (by omega))
                rw [HV.out] at HVD
                have bz := SZ.b
                clear SZ TZ S4 T4
                go_wp2_with (first
                  | (go_at_call 22; ((with_reducible refine HVD.out.mono ?_); rintro r9 w8 ⟨rfl, h8⟩; have b8 := bz.trans (h8.mono bz.size)))
                  | (go_at_call 9; ((with_reducible refine (shAwake_any H _).mono ?_); rintro r9 w99 ⟨rfl, h99⟩)))
                go_ret
                exact ⟨rfl, b8.trans (h99.mono b8.size)⟩
          · generalize max (0 : Int) ((L.length : Int) - (k : Int)) = R at hz hrs
            have HRS := Lib.hid hrs
            clear hrs hd hl hb ht hs
            generalize wr.heap.size = N at *
            generalize wr.drew = wd at *
            have hgBB : g < B := by omega
            go_wp2_with (first
              | (go_at_call 12; ((with_reducible refine HRS.out.mono ?_); rintro r9 w2 ⟨rfl, rfl⟩))
              | (go_at_call 13; ((with_reducible refine (rolled_any _ _ _ _ _ S4.d hzl).mono ?_); rintro r9 w3 ⟨eb, ek, ev, em, ez, eo, rfl, ok3, q2, q3, q4, hd3, hg3⟩; clear q3 q4; obtain ⟨i, rfl, hi5⟩ := blk_nat q2; clear q2; have hiI : (i : Int) < 5 := (by omega); have HO := Lib.hid ok3; clear ok3; have S3 := S4.next hgBB hd3 hg3; have T3 := T4.next hgA hg3; have hs3 : B ≤ w3.heap.size := Nat.le_trans hBN0 S3.s; have S5 := S3.al (entRow (i : Int) ek ev em ez eo); have T5 := T3.al (entRow (i : Int) ek ev em ez eo); have e4 := heap_alloc_new w3 (entRow (i : Int) ek ev em ez eo); clear hd3 hg3 S3 T3 S4 T4))
              | (go_at_call 19; ((with_reducible refine (sh_install H (i : Int) ek ev em ez eo _ S5.from' hn4 (Nat.le_trans hBN0 S5.s)).mono ?_); rintro r9 w5 ⟨y1, y2, y3, y4, y5, y6, yB, aR, nR, cR, rfl, lR, mR, h5⟩; have s5 := (S5.on h5).new lR; have t5 := T5.on h5; have e5 := e_on h5 e4 (e_lt e4); have s5lt : w3.heap.size ≤ w5.heap.size := (by have h8 := h5.size; simp only [World.size_alloc] at h8; omega); have vR := valid_install (e := ⟨i, ek, ev, em, ez, eo⟩) HV.out; obtain ⟨ci, -⟩ := t5.atb i hi5; clear S5 T5 e4 lR h5)))
            by_cases hup : f i < ev
            · have hdd : decide (f i < ev) = true := decide_eq_true hup
              refine Plan.start (fun W => Six W w3.heap.size (i : Int) ek ev em ez eo ∧ W.cell? ⟨A, i, none⟩ = some (.int .i64 (f i))) [(0, true), (1, true), (2, true), (3, true), (4, true), (5, true), (6, true)] (by kernel_rfl) (by kernel_rfl) (by kernel_rfl) (by kernel_rfl) ⟨entry_row e5, ci⟩ ?_
              simp only [List.map_cons, List.map_nil, List.getElem?_toArray, List.getElem?_cons_zero, List.getElem?_cons_succ]
              repeat (first | (refine Plan.take ?_ (by rfl) ?_ ?_; rotate_left; (· rintro w9 ⟨⟨u0, u1, u2, u3, u4, u5⟩, u6⟩; go_simp; (try rw [if_neg (by omega)]); all_goals (with_reducible rfl)); simp only [Act.put, List.setIfInBounds_toArray, List.set_cons_zero, List.set_cons_succ]) | (refine Plan.pass (by rfl) ?_; simp only [Act.put, List.setIfInBounds_toArray, List.set_cons_zero, List.set_cons_succ]))
              refine Plan.ends ?_
              have s6 : Sit w5.drew w B w5.heap.size w.heap.size g L (stp6 L k) aR nR cR (installL S ⟨i, ek, ev, em, ez, eo⟩) := ⟨s5.l.on ⟨Nat.le_refl _, fun _ _ _ => rfl⟩, dice_drew s5.d, Nat.le_refl _, s5.b.drew⟩
              have t6 : Tab w5.drew A f h := ⟨t5.b, t5.k⟩
              have e6 : w5.drew.heap[w3.heap.size]? = some (entRow (i : Int) ek ev em ez eo) := e5
              have hBN : B ≤ w5.heap.size := Nat.le_trans hs3 s5lt
              clear s5 t5 ci e5
              generalize w5.heap.size = N5 at *
              generalize w5.drew = w6 at *
              obtain ⟨hcA, hfA⟩ := t6.atb i hi5
              obtain ⟨hcK, hfK⟩ := t6.atk i hi5
              go_wp2_with fail
              have t7 : Tab w6.drew A f h := ⟨t6.b, t6.k⟩
              have e7 : w6.drew.heap[w3.heap.size]? = some (entRow (i : Int) ek ev em ez eo) := e6
              have s7 : Sit w6.drew w B N5 w.heap.size g L (stp6 L k) aR nR cR (installL S ⟨i, ek, ev, em, ez, eo⟩) := ⟨s6.l.on ⟨Nat.le_refl _, fun _ _ _ => rfl⟩, dice_drew s6.d, s6.s, s6.b.drew⟩
              have e8 := (Below.heap_setCell w6.drew ⟨A, i, none⟩ (.int .i64 ev) w3.heap.size (by show w3.heap.size ≠ A; omega)).trans e7
              have t8 := t7.setb (v := ev) hi5
              have s8 := s7.cell hgA (j := i) (r := A) (by omega) (.int .i64 ev)
              have e9 := (Below.heap_setCell (w6.drew.setCell ⟨A, i, none⟩ (.int .i64 ev)) ⟨A + 1, i, none⟩ (.int .i64 ek) w3.heap.size (by show w3.heap.size ≠ A + 1; omega)).trans e8
              obtain ⟨hcK8, hfK8⟩ := t8.atk i hi5
              have t9 := t8.setk (v := ek) hi5
              have s9 := s8.cell hgA1 (j := i) (r := A + 1) (by omega) (.int .i64 ek)
              refine Plan.start (fun W => Six W w3.heap.size (i : Int) ek ev em ez eo) [(0, true), (1, true), (2, true), (3, true), (4, true), (5, true), (6, true), (7, true), (8, true), (9, false), (10, true), (11, false)] (by kernel_rfl) (by kernel_rfl) (by kernel_rfl) (by kernel_rfl) (entry_row e6) ?_
              simp only [List.map_cons, List.map_nil, List.getElem?_toArray, List.getElem?_cons_zero, List.getElem?_cons_succ]
              repeat (first | (refine Plan.take ?_ (by rfl) ?_ ?_; rotate_left; (· rintro w9 ⟨u0, u1, u2, u3, u4, u5⟩; go_simp; (try rw [if_neg (by omega)]); all_goals (with_reducible rfl)); simp only [Act.put, List.setIfInBounds_toArray, List.set_cons_zero, List.set_cons_succ]) | (refine Plan.pass (by rfl) ?_; simp only [Act.put, List.setIfInBounds_toArray, List.set_cons_zero, List.set_cons_succ]))
              refine Plan.carry (by rfl) (Put.wp_store_int 3 _ _ rfl A i .i64 ev (by rfl) (by rfl) ⟨_, hcA⟩ hfA Put.int_info1 ⟨entry_row e8, ?_⟩)
              simp only [Act.put]
              repeat (first | (refine Plan.take ?_ (by rfl) ?_ ?_; rotate_left; (· rintro w9 ⟨u0, u1, u2, u3, u4, u5⟩; go_simp; (try rw [if_neg (by omega)]); all_goals (with_reducible rfl)); simp only [Act.put, List.setIfInBounds_toArray, List.set_cons_zero, List.set_cons_succ]) | (refine Plan.pass (by rfl) ?_; simp only [Act.put, List.setIfInBounds_toArray, List.set_cons_zero, List.set_cons_succ]))
              refine Plan.carry (by rfl) (Put.wp_store_int 3 _ _ rfl (A + 1) i .i64 ek (by rfl) (by rfl) ⟨_, hcK8⟩ hfK8 Put.int_info1 ⟨entry_row e9, ?_⟩)
              simp only [Act.put]
              refine Plan.ends ?_
              have sR := s9
              have tR := t9
              have TR := tops_up HV.out HT.out HO.out hup
              clear s7 s8 t7 t8 e7 e8 e9 s6 t6 e6 hcA hfA hcK hfK hcK8 hfK8 s9 t9
              generalize ((w6.drew.setCell ⟨A, i, none⟩ (.int .i64 ev)).setCell ⟨A + 1, i, none⟩ (.int .i64 ek)) = wR at *
              rcases mv_cases j ml with hjm | hjm
              · obtain ⟨y, M, rfl, hM, hMr⟩ := HMV.out j hjm
                have cM := hM _ sR.b
                have hjI2 : (j : Int) < (ml : Int) := by omega
                have HMR := Lib.hid hMr
                clear hM hMr
                go_wp2_with (first
                  | (go_at_call 20; ((with_reducible refine (sh_find H _ _ sR.from' (by omega) vR).mono ?_); rintro r9 w5 (⟨xb, xk, xv, xm, xz, xo, hx, rfl, h5⟩ | ⟨hx, rfl, h5⟩) <;> (first | (clear hx; have sX := (sR.on h5).al (entRow xb xk xv xm xz xo); have tX := (tR.on h5).al (entRow xb xk xv xm xz xo); have x6 := heap_alloc_new w5 (entRow xb xk xv xm xz xo); obtain ⟨z0, z1, z2, z3, z4, z5⟩ := entry_row x6) | (clear hx; have sX := (sR.on h5).al (entRow 0 0 0 0 0 0); have tX := (tR.on h5).al (entRow 0 0 0 0 0 0)))))
                  | (go_at_call 21; ((with_reducible refine (sh_reloc H xb xv xz xo 7 (j : Int) 1 _ sX.from' (by omega) (Nat.le_trans hBN sX.s)).mono ?_); rintro r9 y9 ⟨a9, n9, c9, rfl, l9, m9, h9⟩; have F9 := sX.on h9; have t9 := tX.on h9)))
                · go_roundw
                  case rel => exact ⟨j + 1, _, _, a9, n9, c9, _, _, by go_num, by omega, rfl, l9, valid_reloc vR, by omega, by omega, F9.d, Nat.le_trans hBN F9.s, F9.b, t9, tops_reloc vR TR⟩
                  case measure => simp [intOf]; omega
                · go_roundw
                  case rel => exact ⟨j + 1, _, _, aR, nR, cR, _, _, by go_num, by omega, rfl, sX.from', vR, by omega, by omega, sX.d, Nat.le_trans hBN sX.s, sX.b, tX, TR⟩
                  case measure => simp [intOf]; omega
              · have hjI2 : ¬ (j : Int) < (ml : Int) := by omega
                go_wp2_with fail
                go_roundw
                case rel => exact ⟨j + 1, _, _, aR, nR, cR, _, _, by go_num, by omega, rfl, sR.from', vR, by omega, by omega, sR.d, Nat.le_trans hBN sR.s, sR.b, tR, TR⟩
                case measure => simp [intOf]; omega
            · have hdd : decide (f i < ev) = false := decide_eq_false hup
              refine Plan.start (fun W => Six W w3.heap.size (i : Int) ek ev em ez eo ∧ W.cell? ⟨A, i, none⟩ = some (.int .i64 (f i))) [(0, true), (1, true), (2, true), (3, true), (4, true), (5, true), (6, true)] (by kernel_rfl) (by kernel_rfl) (by kernel_rfl) (by kernel_rfl) ⟨entry_row e5, ci⟩ ?_
              simp only [List.map_cons, List.map_nil, List.getElem?_toArray, List.getElem?_cons_zero, List.getElem?_cons_succ]
              repeat (first | (refine Plan.take ?_ (by rfl) ?_ ?_; rotate_left; (· rintro w9 ⟨⟨u0, u1, u2, u3, u4, u5⟩, u6⟩; go_simp; (try rw [if_neg (by omega)]); all_goals (with_reducible rfl)); simp only [Act.put, List.setIfInBounds_toArray, List.set_cons_zero, List.set_cons_succ]) | (refine Plan.pass (by rfl) ?_; simp only [Act.put, List.setIfInBounds_toArray, List.set_cons_zero, List.set_cons_succ]))
              refine Plan.ends ?_
              have s6 : Sit w5.drew w B w5.heap.size w.heap.size g L (stp6 L k) aR nR cR (installL S ⟨i, ek, ev, em, ez, eo⟩) := ⟨s5.l.on ⟨Nat.le_refl _, fun _ _ _ => rfl⟩, dice_drew s5.d, Nat.le_refl _, s5.b.drew⟩
              have t6 : Tab w5.drew A f h := ⟨t5.b, t5.k⟩
              have e6 : w5.drew.heap[w3.heap.size]? = some (entRow (i : Int) ek ev em ez eo) := e5
              have hBN : B ≤ w5.heap.size := Nat.le_trans hs3 s5lt
              clear s5 t5 ci e5
              have sR := s6
              have tR := t6
              have TR := tops_keep HV.out HT.out HO.out hup
              clear s6 t6 e6
              generalize w5.heap.size = N5 at *
              generalize w5.drew = wR at *
              rcases mv_cases j ml with hjm | hjm
              · obtain ⟨y, M, rfl, hM, hMr⟩ := HMV.out j hjm
                have cM := hM _ sR.b
                have hjI2 : (j : Int) < (ml : Int) := by omega
                have HMR := Lib.hid hMr
                clear hM hMr
                go_wp2_with (first
                  | (go_at_call 20; ((with_reducible refine (sh_find H _ _ sR.from' (by omega) vR).mono ?_); rintro r9 w5 (⟨xb, xk, xv, xm, xz, xo, hx, rfl, h5⟩ | ⟨hx, rfl, h5⟩) <;> (first | (clear hx; have sX := (sR.on h5).al (entRow xb xk xv xm xz xo); have tX := (tR.on h5).al (entRow xb xk xv xm xz xo); have x6 := heap_alloc_new w5 (entRow xb xk xv xm xz xo); obtain ⟨z0, z1, z2, z3, z4, z5⟩ := entry_row x6) | (clear hx; have sX := (sR.on h5).al (entRow 0 0 0 0 0 0); have tX := (tR.on h5).al (entRow 0 0 0 0 0 0)))))
                  | (go_at_call 21; ((with_reducible refine (sh_reloc H xb xv xz xo 7 (j : Int) 1 _ sX.from' (by omega) (Nat.le_trans hBN sX.s)).mono ?_); rintro r9 y9 ⟨a9, n9, c9, rfl, l9, m9, h9⟩; have F9 := sX.on h9; have t9 := tX.on h9)))
                · go_roundw
                  case rel => exact ⟨j + 1, _, _, a9, n9, c9, _, _, by go_num, by omega, rfl, l9, valid_reloc vR, by omega, by omega, F9.d, Nat.le_trans hBN F9.s, F9.b, t9, tops_reloc vR TR⟩
                  case measure => simp [intOf]; omega
                · go_roundw
                  case rel => exact ⟨j + 1, _, _, aR, nR, cR, _, _, by go_num, by omega, rfl, sX.from', vR, by omega, by omega, sX.d, Nat.le_trans hBN sX.s, sX.b, tX, TR⟩
                  case measure => simp [intOf]; omega
              · have hjI2 : ¬ (j : Int) < (ml : Int) := by omega
                go_wp2_with fail
                go_roundw
                case rel => exact ⟨j + 1, _, _, aR, nR, cR, _, _, by go_num, by omega, rfl, sR.from', vR, by omega, by omega, sR.d, Nat.le_trans hBN sR.s, sR.b, tR, TR⟩
                case measure => simp [intOf]; omega
        · have hjI : ¬ (j : Int) < 40 := by omega
          have S4 : Sit wr w B wr.heap.size w.heap.size g L k sa n d S := ⟨hl.cut, hd, Nat.le_refl _, hb⟩
          have T4 := ht
          clear hd hl hb ht hs
          generalize wr.heap.size = N at *
          generalize wr = wd at *
          go_wp2_with fail
          have HTT := HT.out
          go_loopw [13] (fun c wz => ∃ b : Nat, c = .int .i64 (b : Int) ∧ b ≤ 5 ∧ Below wd.heap.size wd wz) (fun c _ => 5 - (intOf c).toNat)
          case atStart => exact ⟨0, rfl, by omega, Below.refl _ _⟩
          case round =>
            obtain ⟨b, rfl, hb5, hbz⟩ := hrel
            have SZ := S4.on hbz
            have TZ := T4.on hbz
            by_cases hlb : b < 5
            · have hbI : (b : Int) < 5 := by omega
              clear S4 T4
              go_wp2_with (first
                | (go_at_call 20; ((with_reducible refine (sh_find H (b : Int) _ SZ.from' hn4 HV.out).mono ?_); rintro r9 w5 (⟨xb, xk, xv, xm, xz, xo, hx, rfl, h5⟩ | ⟨hx, rfl, h5⟩) <;> (first | (have hx9 : lookE S (b : Int) = some ⟨xb, xk, xv, xm, xz, xo⟩ := hx; obtain ⟨f1, f2, f3⟩ := tops_some HTT HV.out hlb hx9; try simp only at f1 f2 f3; have t6 := (TZ.on h5).al (entRow xb xk xv xm xz xo); have b6 := (hbz.trans (h5.mono hbz.size)).alloc (hbz.trans (h5.mono hbz.size)).size (entRow xb xk xv xm xz xo); have x6 := heap_alloc_new w5 (entRow xb xk xv xm xz xo); obtain ⟨cA, -⟩ := t6.atb b hlb; obtain ⟨cK, -⟩ := t6.atk b hlb; rw [f1] at cA; rw [f2] at cK; clear hx hx9 f1 f2 HTT) | (have f1 := tops_none HTT hlb hx; have t6 := (TZ.on h5).al (entRow 0 0 0 0 0 0); have b6 := (hbz.trans (h5.mono hbz.size)).alloc (hbz.trans (h5.mono hbz.size)).size (entRow 0 0 0 0 0 0); have x6 := heap_alloc_new w5 (entRow 0 0 0 0 0 0); obtain ⟨cA, -⟩ := t6.atb b hlb; obtain ⟨cK, -⟩ := t6.atk b hlb; rw [f1] at cA; clear hx f1 HTT)))))
              · have g1 : decide (0 < xv) = true := by simp; omega
                refine Plan.start (fun W => Six W w5.heap.size xb xk xv xm xz xo ∧ W.cell? ⟨A, b, none⟩ = some (.int .i64 xv) ∧ W.cell? ⟨A + 1, b, none⟩ = some (.int .i64 xk)) [(0, true), (1, true), (2, true), (3, true), (4, true), (5, true), (6, true), (7, true), (8, true), (9, true), (10, true), (11, true), (12, true), (13, true), (14, true), (15, true), (16, true), (17, true), (18, true), (19, true), (20, true), (21, true), (22, true), (23, true), (24, true)] (by kernel_rfl) (by kernel_rfl) (by kernel_rfl) (by kernel_rfl) ⟨entry_row x6, cA, cK⟩ ?_
                simp only [List.map_cons, List.map_nil, List.getElem?_toArray, List.getElem?_cons_zero, List.getElem?_cons_succ]
                repeat (first | (refine Plan.take ?_ (by rfl) ?_ ?_; rotate_left; (· rintro w9 ⟨⟨u0, u1, u2, u3, u4, u5⟩, u6, u7⟩; go_simp; (try rw [if_neg (by omega)]); all_goals (with_reducible rfl)); simp only [Act.put, List.setIfInBounds_toArray, List.set_cons_zero, List.set_cons_succ]) | (refine Plan.pass (by rfl) ?_; simp only [Act.put, List.setIfInBounds_toArray, List.set_cons_zero, List.set_cons_succ]))
                refine Plan.ends ?_
                have b7 := b6.drew
                clear cA cK x6 t6 b6
                go_wp2_with fail
                go_roundw
                case rel => exact ⟨b + 1, by go_num, by omega, b7⟩
                case measure => simp [intOf]; omega
              · refine Plan.start (fun W => Six W w5.heap.size 0 0 0 0 0 0 ∧ W.cell? ⟨A, b, none⟩ = some (.int .i64 0) ∧ W.cell? ⟨A + 1, b, none⟩ = some (.int .i64 (h b))) [(0, true), (1, true), (2, true), (3, true), (4, true), (5, true), (6, true), (7, true), (8, true), (9, true), (10, true), (11, true), (12, true), (13, true), (14, true), (15, true), (16, true), (17, true), (18, true), (19, true), (20, true), (21, true), (22, true), (23, true), (24, true)] (by kernel_rfl) (by kernel_rfl) (by kernel_rfl) (by kernel_rfl) ⟨entry_row x6, cA, cK⟩ ?_
                simp only [List.map_cons, List.map_nil, List.getElem?_toArray, List.getElem?_cons_zero, List.getElem?_cons_succ]
                repeat (first | (refine Plan.take ?_ (by rfl) ?_ ?_; rotate_left; (· rintro w9 ⟨⟨u0, u1, u2, u3, u4, u5⟩, u6, u7⟩; go_simp; (try rw [if_neg (by omega)]); all_goals (with_reducible rfl)); simp only [Act.put, List.setIfInBounds_toArray, List.set_cons_zero, List.set_cons_succ]) | (refine Plan.pass (by rfl) ?_; simp only [Act.put, List.setIfInBounds_toArray, List.set_cons_zero, List.set_cons_succ]))
                refine Plan.ends ?_
                have b7 := b6.drew
                clear cA cK x6 t6 b6
                go_wp2_with fail
                go_roundw
                case rel => exact ⟨b + 1, by go_num, by omega, b7⟩
                case measure => simp [intOf]; omega
            · obtain rfl : b = 5 := by omega
              have HVD := Lib.hid (H.valid _ S sa n d wr SZ.from' (by omega))
              rw [HV.out] at HVD
              have bz := SZ.b
              clear SZ TZ S4 T4
              go_wp2_with (first
                | (go_at_call 22; ((with_reducible refine HVD.out.mono ?_); rintro r9 w8 ⟨rfl, h8⟩; have b8 := bz.trans (h8.mono bz.size)))
                | (go_at_call 9; ((with_reducible refine (shAwake_any H _).mono ?_); rintro r9 w99 ⟨rfl, h99⟩)))
              go_ret
              exact ⟨rfl, b8.trans (h99.mono b8.size)⟩
    · have hmlI : (60 : Int) < (ml : Int) := by omega
      have HLI := Lib.hid hli
      clear hli
      go_enter Try.func5, Try.ntmps5
      go_wp2_with (first
        | (go_at_call 10; ((with_reducible refine HLI.out.mono ?_); rintro e w0 ⟨rfl, rfl⟩))
        | (go_at_call 9; ((with_reducible refine (shAwake_any H _).mono ?_); rintro e w1 ⟨rfl, hb1⟩)))
      go_ret
      exact ⟨rfl, hb1⟩
  · rw [decide_eq_false hlen] at hli
    have HLI := Lib.hid hli
    clear hli
    go_enter Try.func5, Try.ntmps5
    go_wp2_with (first
      | (go_at_call 10; ((with_reducible refine HLI.out.mono ?_); rintro e w0 ⟨rfl, rfl⟩))
      | (go_at_call 9; ((with_reducible refine (shAwake_any H _).mono ?_); rintro e w1 ⟨rfl, hb1⟩)))
    go_ret
    exact ⟨rfl, hb1⟩
end Go.Proofs.Ytbaclgedohpibaa.Ents
