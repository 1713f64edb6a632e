
/- What the program's counters are to do, in the words of the contracts of the document's own; the walk of the law's agree under it. -/
import Derived.Test.YtigmjpkhpoolkaaCntChange
import Derived.Test.YtigmjpkhpoolkaaCntOf
namespace Go.Proofs.Ytigmjpkhpoolkaa.Ents
open Go.RowKit Plan EntMath CntMath
structure LiveOk : Prop where
  new : ∀ (s : Int) (w : World), Calls Try.prog 10 #[.int .i64 s] w (CNewPost w (newC s) (newCE s))
  valid : ∀ (F : Nat → Prop) (C : Cnt) (a a2 : Option Addr) (n c n2 c2 : Nat) (w : World), CList w F a n c a2 n2 c2 C → n ≤ 1000 → n2 ≤ 1000 →
    Calls Try.prog 22 #[cntV a n c a2 n2 c2] w fun r w' => r = .returned (.bool (validC C)) ∧ Below w.heap.size w w'
  bgn : ∀ (F : Nat → Prop) (C : Cnt) (z : Int) (a a2 : Option Addr) (n c n2 c2 : Nat) (w : World), (∀ b, F b → b < w.heap.size) → CList w F a n c a2 n2 c2 C → n ≤ 1000 → n2 ≤ 1000 →
    Calls Try.prog 18 #[cntV a n c a2 n2 c2, .int .i64 z] w (CntPost w F (beginC C z) (beginB C z))
  fin : ∀ (F : Nat → Prop) (C : Cnt) (z : Int) (a a2 : Option Addr) (n c n2 c2 : Nat) (w : World), (∀ b, F b → b < w.heap.size) → CList w F a n c a2 n2 c2 C → n ≤ 1000 → n2 ≤ 1000 →
    Calls Try.prog 19 #[cntV a n c a2 n2 c2, .int .i64 z] w (CntPost w F (endC C z) (endB C z))
  clr : ∀ (F : Nat → Prop) (C : Cnt) (z : Int) (a a2 : Option Addr) (n c n2 c2 : Nat) (w : World), (∀ b, F b → b < w.heap.size) → CList w F a n c a2 n2 c2 C → n ≤ 1000 → n2 ≤ 1000 →
    Calls Try.prog 26 #[cntV a n c a2 n2 c2, .int .i64 z] w (CntPost w F C (clearB C z))
  chg : ∀ (F : Nat → Prop) (C : Cnt) (o f : Ent) (had is : Bool) (a a2 : Option Addr) (n c n2 c2 : Nat) (w : World), (∀ b, F b → b < w.heap.size) → CList w F a n c a2 n2 c2 C → n ≤ 1000 → n2 ≤ 1000 →
    Calls Try.prog 14 #[cntV a n c a2 n2 c2, entV o, entV f, .bool had, .bool is] w (CntPost w F (changeC C o.zone f.zone had is) (changeB C o.zone f.zone had is))
  cnt : ∀ (F : Nat → Prop) (L : List Ent) (a : Option Addr) (n c : Nat) (s : Int) (w : World), EList w F a n c L → n ≤ 1000 →
    Calls Try.prog 16 #[.int .i64 s, .slice a n c] w (COfPost w s L)
theorem heap3 (w : World) (p q r : Obj) : (((w.alloc p).alloc q).alloc r).heap[w.heap.size]? = some p ∧ (((w.alloc p).alloc q).alloc r).heap[w.heap.size + 1]? = some q ∧ (((w.alloc p).alloc q).alloc r).heap[w.heap.size + 2]? = some r := by
  have h3 := heap_alloc_new ((w.alloc p).alloc q) r
  rw [show ((w.alloc p).alloc q).heap.size = w.heap.size + 2 from by simp] at h3
  exact ⟨e_al (heap_first w p q) r, e_al (heap_second w p q) r, h3⟩
set_option maxHeartbeats 16000000 in
set_option maxRecDepth 20000 in
theorem cntAgree_any (H : LiveOk) (F G : Nat → Prop) (C : Cnt) (z : Int) (o f : Ent) (had is : Bool) (L : List Ent) (a a2 e : Option Addr) (n c n2 c2 m d : Nat) (w : World) (hl : CList w F a n c a2 n2 c2 C) (hk : EList w G e m d L) (hn : n ≤ 1000) (hn2 : n2 ≤ 1000) (hm : m ≤ 1000) :
    Calls Try.prog 6 #[cntV a n c a2 n2 c2, .int .i64 z, entV o, entV f, .bool had, .bool is, .slice e m d] w fun r w' => r = .returned (.bool true) ∧ Below w.heap.size w w' := by
  have hb : Below w.heap.size w (((w.alloc (cntRow a n c a2 n2 c2)).alloc (entRow o.block o.kind o.version o.move o.zone o.offset)).alloc (entRow f.block f.kind f.version f.move f.zone f.offset)) := (((Below.refl w.heap.size w).alloc (Nat.le_refl _) _).alloc (by simp) _).alloc (by simp; omega) _
  obtain ⟨hx, ho, hf⟩ := heap3 w (cntRow a n c a2 n2 c2) (entRow o.block o.kind o.version o.move o.zone o.offset) (entRow f.block f.kind f.version f.move f.zone f.offset)
  have hlw : ∀ W, Below w.heap.size w W → CList W (fun b => b < w.heap.size) a n c a2 n2 c2 C := fun W h => hl.same h
  have hFw : ∀ W, Below w.heap.size w W → ∀ b, b < w.heap.size → b < W.heap.size := fun W h b hb => Nat.lt_of_lt_of_le hb h.size
  have hkw : ∀ W, Below w.heap.size w W → EList W G e m d L := fun W h => hk.on (Same.below h)
  have V1 := Lib.hid fun W h => H.valid _ C a a2 n c n2 c2 W (hlw W h) hn hn2
  have V2 := Lib.hid fun W h => refCValid_any _ C a a2 n c n2 c2 W (hlw W h)
  have B1 := fun W h => H.bgn _ C z a a2 n c n2 c2 W (hFw W h) (hlw W h) hn hn2
  have B2 := fun W h => refBegin_any _ C z a a2 n c n2 c2 W (hlw W h)
  have E1 := fun W h => H.fin _ C z a a2 n c n2 c2 W (hFw W h) (hlw W h) hn hn2
  have E2 := fun W h => refEnd_any _ C z a a2 n c n2 c2 W (hlw W h)
  have K1 := fun W h => H.clr _ C z a a2 n c n2 c2 W (hFw W h) (hlw W h) hn hn2
  have K2 := fun W h => refClear_any _ C z a a2 n c n2 c2 W (hlw W h)
  have G1 := fun W h => H.chg _ C o f had is a a2 n c n2 c2 W (hFw W h) (hlw W h) hn hn2
  have G2 := fun W h => refChange_any _ C o f had is a a2 n c n2 c2 W (hlw W h)
  have O1 := fun W h => H.cnt _ L e m d z W (hkw W h) hm
  have O2 := fun W h => refOf_any _ L e m d z W (hkw W h) (by omega)
  have FAR : RowKit.Hid (∀ (X Y : Nat) {b : Nat} {W : World}, w.heap.size + 2 < X → w.heap.size + 2 < Y → X < W.heap.size → Y < W.heap.size → Plus (fun b => b < w.heap.size) W.heap.size b → b ≠ X ∧ b ≠ Y) := Lib.hid (fun X Y b W h1 h2 h3 h4 h => by rcases h with h | h <;> omega)
  have FAR2 : RowKit.Hid (∀ (X Y : Nat) {b : Nat} {W : World}, X < W.heap.size → Y < W.heap.size → W.heap.size ≤ b → b ≠ X ∧ b ≠ Y) := Lib.hid (fun X Y b W h3 h4 h => by omega)
  clear hlw hFw hkw hl hk
  unfold CntPost at B1 B2 E1 E2 K1 K2 G1 G2
  unfold COfPost at O1 O2
  generalize validC C = VB at V1 V2
  generalize beginC C z = BC at B1 B2
  generalize beginB C z = BB at B1 B2
  generalize endC C z = EC at E1 E2
  generalize endB C z = EB at E1 E2
  generalize clearB C z = KB at K1 K2
  generalize changeC C o.zone f.zone had is = GC at G1 G2
  generalize changeB C o.zone f.zone had is = GB at G1 G2
  generalize ofC z L = OC at O1 O2
  generalize ofB z L = OB at O1 O2
  replace B1 := Lib.hid B1
  replace B2 := Lib.hid B2
  replace E1 := Lib.hid E1
  replace E2 := Lib.hid E2
  replace K1 := Lib.hid K1
  replace K2 := Lib.hid K2
  replace O1 := Lib.hid O1
  replace O2 := Lib.hid O2
  obtain ⟨ob, ok, ov, om, oz, oo⟩ := o
  obtain ⟨fb, fk, fv, fm, fz, fo⟩ := f
  try simp only at G1 G2 ho hf hb hx
  replace G1 := Lib.hid G1
  replace G2 := Lib.hid G2
  go_enter Try.func6, Try.ntmps6
  generalize hw0 : ((w.alloc (cntRow a n c a2 n2 c2)).alloc (entRow ob ok ov om oz oo)).alloc (entRow fb fk fv fm fz fo) = w0 at *
  go_wp2_with (first
    | ((with_reducible refine Plan.load_lit 24 (.tmp 7) w.heap.size ?_ hx Try.underlying24 ?_ ?_ ?_); (· rfl); (· rfl); (· exact cnt_info); simp only [Act.put, List.setIfInBounds_toArray, List.set_cons_zero, List.set_cons_succ])
    | (go_at_call 18; ((with_reducible refine (B1.out _ hb).mono ?_); rintro r9 w5 ⟨xa, xn, xc, xa2, xn2, xc2, rfl, lx, h9⟩; have kX : w.heap.size + 2 < w5.heap.size := e_lt (e_on h9 hf (e_lt hf)); have hb := hb.trans (h9.mono hb.size); have hx := e_al (e_on h9 hx (e_lt hx)) (cntRow xa xn xc xa2 xn2 xc2); have ho := e_al (e_on h9 ho (e_lt ho)) (cntRow xa xn xc xa2 xn2 xc2); have hf := e_al (e_on h9 hf (e_lt hf)) (cntRow xa xn xc xa2 xn2 xc2); have hX := heap_alloc_new w5 (cntRow xa xn xc xa2 xn2 xc2); have lx := lx.on (Same.alloc w5 (cntRow xa xn xc xa2 xn2 xc2)); have hb := hb.alloc hb.size (cntRow xa xn xc xa2 xn2 xc2); clear B1 h9)) | (go_at_call 21; ((with_reducible refine (B2.out _ hb).mono ?_); rintro r9 w6 ⟨ya, yn, yc, ya2, yn2, yc2, rfl, ly, h9⟩; have kY : w5.heap.size < w6.heap.size := e_lt (e_on h9 hX (e_lt hX)); have hb := hb.trans (h9.mono hb.size); have hx := e_al (e_on h9 hx (e_lt hx)) (cntRow ya yn yc ya2 yn2 yc2); have ho := e_al (e_on h9 ho (e_lt ho)) (cntRow ya yn yc ya2 yn2 yc2); have hf := e_al (e_on h9 hf (e_lt hf)) (cntRow ya yn yc ya2 yn2 yc2); have hX := e_al (e_on h9 hX (e_lt hX)) (cntRow ya yn yc ya2 yn2 yc2); have hY := heap_alloc_new w6 (cntRow ya yn yc ya2 yn2 yc2); have lx := (lx.cut.on (Same.below h9)).on (Same.alloc w6 (cntRow ya yn yc ya2 yn2 yc2)); have ly := ly.on (Same.alloc w6 (cntRow ya yn yc ya2 yn2 yc2)); have hb := hb.alloc hb.size (cntRow ya yn yc ya2 yn2 yc2); clear B2 h9)))
  generalize w6.alloc (cntRow ya yn yc ya2 yn2 yc2) = w7 at *
  have kY2 : w.heap.size + 2 < w6.heap.size := by omega
  generalize w5.heap.size = X at *
  generalize w6.heap.size = Y at *
  have kXY : X ≠ Y := by omega
  clear kY
  have kY := kY2
  clear kY2
  refine Plan.start (fun W => (W.cell? ⟨w.heap.size, 0, none⟩ = some (.slice a n c) ∧ W.cell? ⟨w.heap.size, 1, none⟩ = some (.slice a2 n2 c2)) ∧ (W.cell? ⟨X, 0, none⟩ = some (.slice xa xn xc) ∧ W.cell? ⟨X, 1, none⟩ = some (.slice xa2 xn2 xc2)) ∧ W.cell? ⟨Y, 0, none⟩ = some (.slice ya yn yc) ∧ W.cell? ⟨Y, 1, none⟩ = some (.slice ya2 yn2 yc2)) [(0, true), (1, true), (2, true), (3, true), (4, true), (5, true), (6, false), (7, true), (8, true), (9, true), (10, true), (12, true), (11, false), (13, false), (14, true), (15, true)] (by kernel_rfl) (by kernel_rfl) (by kernel_rfl) (by kernel_rfl) ⟨two_row hx, two_row hX, two_row hY⟩ ?_
  simp only [List.map_cons, List.map_nil, List.getElem?_toArray, List.getElem?_cons_zero, List.getElem?_cons_succ]
  have hx : w7.drew.heap[w.heap.size]? = _ := hx
  have ho : w7.drew.heap[w.heap.size + 1]? = _ := ho
  have hf : w7.drew.heap[w.heap.size + 2]? = _ := hf
  have hX : w7.drew.heap[X]? = _ := hX
  have hY : w7.drew.heap[Y]? = _ := hY
  have hb := hb.drew
  have lx := lx.on (w' := w7.drew) ⟨Nat.le_refl _, fun _ _ _ => rfl⟩
  have ly := ly.on (w' := w7.drew) ⟨Nat.le_refl _, fun _ _ _ => rfl⟩
  generalize w7.drew = w5 at *
  repeat (first | (refine Plan.take ?_ (by rfl) ?_ ?_; rotate_left; (· rintro w9 ⟨⟨c0, c1⟩, ⟨x0, x1⟩, y0, y1⟩; go_simp; (try rw [if_neg (by omega)]); all_goals (with_reducible rfl)); simp only [Act.put, List.setIfInBounds_toArray, List.set_cons_zero, List.set_cons_succ]) | (refine Plan.pass (by rfl) ?_; simp only [Act.put, List.setIfInBounds_toArray, List.set_cons_zero, List.set_cons_succ]))
  refine Plan.call (by rfl) 17 _ ?_ (refCSame_any _ _ _ _ _ _ _ _ _ _ _ _ _ _ _ _ lx ly) ?_
  · go_simp
  rintro r9 w5 ⟨rfl, h9⟩
  have hb := hb.trans (h9.mono hb.size)
  have hx := e_on h9 hx (e_lt hx)
  have ho := e_on h9 ho (e_lt ho)
  have hf := e_on h9 hf (e_lt hf)
  have hX := e_on h9 hX (e_lt hX)
  have hY := e_on h9 hY (e_lt hY)
  clear lx ly
  refine ⟨_, rfl, ⟨two_row hx, two_row hX, two_row hY⟩, ?_⟩
  simp only [Act.put, List.setIfInBounds_toArray, List.set_cons_zero, List.set_cons_succ]
  repeat (first | (refine Plan.take ?_ (by rfl) ?_ ?_; rotate_left; (· rintro w9 ⟨⟨c0, c1⟩, ⟨x0, x1⟩, y0, y1⟩; go_simp; (try rw [if_neg (by omega)]); all_goals (with_reducible rfl)); simp only [Act.put, List.setIfInBounds_toArray, List.set_cons_zero, List.set_cons_succ]) | (refine Plan.pass (by rfl) ?_; simp only [Act.put, List.setIfInBounds_toArray, List.set_cons_zero, List.set_cons_succ]))
  clear h9
  refine Plan.call (by rfl) 22 _ ?_ (V1.out _ hb) ?_
  · go_simp
  rintro r9 w5 ⟨rfl, h9⟩
  have hb := hb.trans (h9.mono hb.size)
  have hx := e_on h9 hx (e_lt hx)
  have ho := e_on h9 ho (e_lt ho)
  have hf := e_on h9 hf (e_lt hf)
  have hX := e_on h9 hX (e_lt hX)
  have hY := e_on h9 hY (e_lt hY)
  refine ⟨_, rfl, ⟨two_row hx, two_row hX, two_row hY⟩, ?_⟩
  simp only [Act.put, List.setIfInBounds_toArray, List.set_cons_zero, List.set_cons_succ]
  repeat (first | (refine Plan.take ?_ (by rfl) ?_ ?_; rotate_left; (· rintro w9 ⟨⟨c0, c1⟩, ⟨x0, x1⟩, y0, y1⟩; go_simp; (try rw [if_neg (by omega)]); all_goals (with_reducible rfl)); simp only [Act.put, List.setIfInBounds_toArray, List.set_cons_zero, List.set_cons_succ]) | (refine Plan.pass (by rfl) ?_; simp only [Act.put, List.setIfInBounds_toArray, List.set_cons_zero, List.set_cons_succ]))
  clear h9
  refine Plan.call (by rfl) 23 _ ?_ (V2.out _ hb) ?_
  · go_simp
  rintro r9 w5 ⟨rfl, h9⟩
  have hb := hb.trans (h9.mono hb.size)
  have hx := e_on h9 hx (e_lt hx)
  have ho := e_on h9 ho (e_lt ho)
  have hf := e_on h9 hf (e_lt hf)
  have hX := e_on h9 hX (e_lt hX)
  have hY := e_on h9 hY (e_lt hY)
  refine ⟨_, rfl, ⟨two_row hx, two_row hX, two_row hY⟩, ?_⟩
  simp only [Act.put, List.setIfInBounds_toArray, List.set_cons_zero, List.set_cons_succ]
  repeat (first | (refine Plan.take ?_ (by rfl) ?_ ?_; rotate_left; (· rintro w9 ⟨⟨c0, c1⟩, ⟨x0, x1⟩, y0, y1⟩; go_simp; (try rw [if_neg (by omega)]); all_goals (with_reducible rfl)); simp only [Act.put, List.setIfInBounds_toArray, List.set_cons_zero, List.set_cons_succ]) | (refine Plan.pass (by rfl) ?_; simp only [Act.put, List.setIfInBounds_toArray, List.set_cons_zero, List.set_cons_succ]))
  clear h9
  refine Plan.ends ?_
  go_wp2_with (first
    | (go_at_call 19; ((with_reducible refine (E1.out _ hb).mono ?_); rintro r9 w5 ⟨xa, xn, xc, xa2, xn2, xc2, rfl, lx, h9⟩; have lx := lx.mono (G := fun b => b ≠ X ∧ b ≠ Y) (fun b _ h => FAR.out X Y kX kY (e_lt hX) (e_lt hY) h); have hb := hb.trans (h9.mono hb.size); have hx := e_on h9 hx (e_lt hx); have ho := e_on h9 ho (e_lt ho); have hf := e_on h9 hf (e_lt hf); have hX := e_on h9 hX (e_lt hX); have hY := e_on h9 hY (e_lt hY); clear E1 h9))
    | (go_at_call 24; ((with_reducible refine (E2.out _ hb).mono ?_); rintro r9 w5 ⟨ya, yn, yc, ya2, yn2, yc2, rfl, ly, h9⟩; have ly := ly.mono (G := fun b => b ≠ X ∧ b ≠ Y) (fun b _ h => FAR.out X Y kX kY (e_lt hX) (e_lt hY) h); have lx := lx.on (Same.below h9); have hb := hb.trans (h9.mono hb.size); have hx := e_on h9 hx (e_lt hx); have ho := e_on h9 ho (e_lt ho); have hf := e_on h9 hf (e_lt hf); have hX := e_on h9 hX (e_lt hX); have hY := e_on h9 hY (e_lt hY); clear E2 h9))
    | (go_at_call 14; ((with_reducible refine (G1.out _ hb).mono ?_); rintro r9 w5 ⟨xa, xn, xc, xa2, xn2, xc2, rfl, lx, h9⟩; have lx := lx.mono (G := fun b => b ≠ X ∧ b ≠ Y) (fun b _ h => FAR.out X Y kX kY (e_lt hX) (e_lt hY) h); have hb := hb.trans (h9.mono hb.size); have hx := e_on h9 hx (e_lt hx); have ho := e_on h9 ho (e_lt ho); have hf := e_on h9 hf (e_lt hf); have hX := e_on h9 hX (e_lt hX); have hY := e_on h9 hY (e_lt hY); clear G1 h9))
    | (go_at_call 25; ((with_reducible refine (G2.out _ hb).mono ?_); rintro r9 w5 ⟨ya, yn, yc, ya2, yn2, yc2, rfl, ly, h9⟩; have ly := ly.mono (G := fun b => b ≠ X ∧ b ≠ Y) (fun b _ h => FAR.out X Y kX kY (e_lt hX) (e_lt hY) h); have lx := lx.on (Same.below h9); have hb := hb.trans (h9.mono hb.size); have hx := e_on h9 hx (e_lt hx); have ho := e_on h9 ho (e_lt ho); have hf := e_on h9 hf (e_lt hf); have hX := e_on h9 hX (e_lt hX); have hY := e_on h9 hY (e_lt hY); clear G2 h9))
    | (go_at_call 26; ((with_reducible refine (K1.out _ hb).mono ?_); rintro r9 w5 ⟨xa, xn, xc, xa2, xn2, xc2, rfl, lx, h9⟩; have lx := lx.mono (G := fun b => b ≠ X ∧ b ≠ Y) (fun b _ h => FAR.out X Y kX kY (e_lt hX) (e_lt hY) h); have hb := hb.trans (h9.mono hb.size); have hx := e_on h9 hx (e_lt hx); have ho := e_on h9 ho (e_lt ho); have hf := e_on h9 hf (e_lt hf); have hX := e_on h9 hX (e_lt hX); have hY := e_on h9 hY (e_lt hY); clear K1 h9))
    | (go_at_call 27; ((with_reducible refine (K2.out _ hb).mono ?_); rintro r9 w5 ⟨ya, yn, yc, ya2, yn2, yc2, rfl, ly, h9⟩; have ly := ly.mono (G := fun b => b ≠ X ∧ b ≠ Y) (fun b _ h => FAR.out X Y kX kY (e_lt hX) (e_lt hY) h); have lx := lx.on (Same.below h9); have hb := hb.trans (h9.mono hb.size); have hx := e_on h9 hx (e_lt hx); have ho := e_on h9 ho (e_lt ho); have hf := e_on h9 hf (e_lt hf); have hX := e_on h9 hX (e_lt hX); have hY := e_on h9 hY (e_lt hY); clear K2 h9))
    | (go_at_call 16; ((with_reducible refine (O1.out _ hb).mono ?_); rintro r9 w5 ⟨xa, xn, xc, xa2, xn2, xc2, rfl, lx, h9⟩; have lx := lx.mono (G := fun b => b ≠ X ∧ b ≠ Y) (fun b _ h => FAR2.out X Y (e_lt hX) (e_lt hY) h); have hb := hb.trans (h9.mono hb.size); have hx := e_on h9 hx (e_lt hx); have ho := e_on h9 ho (e_lt ho); have hf := e_on h9 hf (e_lt hf); have hX := e_on h9 hX (e_lt hX); have hY := e_on h9 hY (e_lt hY); clear O1 h9))
    | (go_at_call 28; ((with_reducible refine (O2.out _ hb).mono ?_); rintro r9 w5 ⟨ya, yn, yc, ya2, yn2, yc2, rfl, ly, h9⟩; have ly := ly.mono (G := fun b => b ≠ X ∧ b ≠ Y) (fun b _ h => FAR2.out X Y (e_lt hX) (e_lt hY) h); have lx := lx.on (Same.below h9); have hb := hb.trans (h9.mono hb.size); have hx := e_on h9 hx (e_lt hx); have ho := e_on h9 ho (e_lt ho); have hf := e_on h9 hf (e_lt hf); have hX := e_on h9 hX (e_lt hX); have hY := e_on h9 hY (e_lt hY); clear O2 h9))
    | ((with_reducible refine Plan.load_lit 24 (.tmp 7) w.heap.size ?_ hx Try.underlying24 ?_ ?_ ?_); (· rfl); (· rfl); (· exact cnt_info); simp only [Act.put, List.setIfInBounds_toArray, List.set_cons_zero, List.set_cons_succ])
    | ((with_reducible refine Plan.load_lit 28 (.tmp 9) (w.heap.size + 1) ?_ ho Try.underlying28 ?_ ?_ ?_); (· rfl); (· rfl); (· exact entry_info); simp only [Act.put, List.setIfInBounds_toArray, List.set_cons_zero, List.set_cons_succ])
    | ((with_reducible refine Plan.load_lit 28 (.tmp 10) (w.heap.size + 2) ?_ hf Try.underlying28 ?_ ?_ ?_); (· rfl); (· rfl); (· exact entry_info); simp only [Act.put, List.setIfInBounds_toArray, List.set_cons_zero, List.set_cons_succ])
    | ((with_reducible refine Plan.store_lit 24 (.tmp 15) _ X ?_ hX ?_ ?_ ?_ ?_ ?_ ?_); rotate_left; (· rfl); (· rfl); (· exact cnt_info); (· rfl); (· simp [Value.oneCell']); simp only [Act.put]; have hx := (setRow_other w5 X w.heap.size #[.slice xa xn xc, .slice xa2 xn2 xc2] (by omega)).trans hx; have ho := (setRow_other w5 X (w.heap.size + 1) #[.slice xa xn xc, .slice xa2 xn2 xc2] (by omega)).trans ho; have hf := (setRow_other w5 X (w.heap.size + 2) #[.slice xa xn xc, .slice xa2 xn2 xc2] (by omega)).trans hf; have hY := (setRow_other w5 X Y #[.slice xa xn xc, .slice xa2 xn2 xc2] (by omega)).trans hY; have hX := setRow_heap w5 X _ #[.slice xa xn xc, .slice xa2 xn2 xc2] _ _ hX; have hb := below_setRow hb (show w.heap.size ≤ X by omega) #[.slice xa xn xc, .slice xa2 xn2 xc2]; have lx := lx.on (Same.row (r := X) (fun h => h.1 rfl) #[.slice xa xn xc, .slice xa2 xn2 xc2]); generalize w5.setRow X #[.slice xa xn xc, .slice xa2 xn2 xc2] = w5 at *)
    | ((with_reducible refine Plan.store_lit 24 (.tmp 17) _ Y ?_ hY ?_ ?_ ?_ ?_ ?_ ?_); rotate_left; (· rfl); (· rfl); (· exact cnt_info); (· rfl); (· simp [Value.oneCell']); simp only [Act.put]; have hx := (setRow_other w5 Y w.heap.size #[.slice ya yn yc, .slice ya2 yn2 yc2] (by omega)).trans hx; have ho := (setRow_other w5 Y (w.heap.size + 1) #[.slice ya yn yc, .slice ya2 yn2 yc2] (by omega)).trans ho; have hf := (setRow_other w5 Y (w.heap.size + 2) #[.slice ya yn yc, .slice ya2 yn2 yc2] (by omega)).trans hf; have hX := (setRow_other w5 Y X #[.slice ya yn yc, .slice ya2 yn2 yc2] (by omega)).trans hX; have hY := setRow_heap w5 Y _ #[.slice ya yn yc, .slice ya2 yn2 yc2] _ _ hY; have hb := below_setRow hb (show w.heap.size ≤ Y by omega) #[.slice ya yn yc, .slice ya2 yn2 yc2]; have lx := lx.on (Same.row (r := Y) (fun h => h.2 rfl) #[.slice ya yn yc, .slice ya2 yn2 yc2]); have ly := ly.on (Same.row (r := Y) (fun h => h.2 rfl) #[.slice ya yn yc, .slice ya2 yn2 yc2]); generalize w5.setRow Y #[.slice ya yn yc, .slice ya2 yn2 yc2] = w5 at *)
    | ((with_reducible refine load_lit_gc 24 (.tmp 15) X ?_ ?_ hX Try.underlying24 ?_ ?_ ?_); (· rfl); (· rfl); (· rfl); (· exact cnt_info); simp only [Act.put, List.setIfInBounds_toArray, List.set_cons_zero, List.set_cons_succ])
    | ((with_reducible refine load_lit_gc 24 (.tmp 17) Y ?_ ?_ hY Try.underlying24 ?_ ?_ ?_); (· rfl); (· rfl); (· rfl); (· exact cnt_info); simp only [Act.put, List.setIfInBounds_toArray, List.set_cons_zero, List.set_cons_succ])
    | (go_at_call 17; ((with_reducible refine (refCSame_any _ _ _ _ _ _ _ _ _ _ _ _ _ _ _ _ lx ly).mono ?_); rintro r9 w5 ⟨rfl, h9⟩; have hb := hb.trans (h9.mono hb.size); have hx := e_on h9 hx (e_lt hx); have ho := e_on h9 ho (e_lt ho); have hf := e_on h9 hf (e_lt hf); have hX := e_on h9 hX (e_lt hX); have hY := e_on h9 hY (e_lt hY); clear h9 lx ly)))
  go_ret
  exact ⟨rfl, hb⟩
end Go.Proofs.Ytigmjpkhpoolkaa.Ents
