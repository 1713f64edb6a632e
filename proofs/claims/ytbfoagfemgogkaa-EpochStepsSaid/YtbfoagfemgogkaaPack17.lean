/- Texts that belong together, part 17. -/
import Derived.Test.YtbfoagfemgogkaaPack16
import Derived.Deep.MidRow
import Derived.Lib.SliceRun
import Derived.Laws.AppendOwn
import Derived.Laws.CopyOwn

/- What the program's epochs are to do, in the words of the contracts of the document's own; the walk of the law's agree under it. -/
namespace Go.Proofs.Ytbfoagfemgogkaa.Ents
open Go.RowKit Plan EntMath CntMath EpoMath Rws
structure EpochOk : Prop where
  new : ∀ (s : Int) (w : World), Calls Try.prog 10 #[.int .i64 s] w (ENewPost w (newE s) (newEE s))
  valid : ∀ (F : Nat → Prop) (E : Epo) (g : Int) (a b : Option Addr) (n c m d : Nat) (w : World), (∀ b, F b → b < w.heap.size) → PList w F g a n c b m d E → n ≤ 1000 → m ≤ 1000 →
    Calls Try.prog 24 #[epoV g a n c b m d] w fun r w' => r = .returned (.bool (validE E)) ∧ Below w.heap.size w w'
  pin : ∀ (F : Nat → Prop) (E : Epo) (s : Int) (g : Int) (a b : Option Addr) (n c m d : Nat) (w : World), (∀ b, F b → b < w.heap.size) → PList w F g a n c b m d E → n ≤ 1000 → m ≤ 1000 →
    Calls Try.prog 19 #[epoV g a n c b m d, .int .i64 s] w (EpoPost w F (pinE E s) (pinB E s))
  unpin : ∀ (F : Nat → Prop) (E : Epo) (s : Int) (g : Int) (a b : Option Addr) (n c m d : Nat) (w : World), (∀ b, F b → b < w.heap.size) → PList w F g a n c b m d E → n ≤ 1000 → m ≤ 1000 →
    Calls Try.prog 18 #[epoV g a n c b m d, .int .i64 s] w (EpoPost w F (unpinE E s) (unpinB E s))
  retire : ∀ (F : Nat → Prop) (E : Epo) (s : Int) (g : Int) (a b : Option Addr) (n c m d : Nat) (w : World), (∀ b, F b → b < w.heap.size) → PList w F g a n c b m d E → n ≤ 1000 → m ≤ 1000 →
    Calls Try.prog 20 #[epoV g a n c b m d, .int .i64 s] w (EpoPost w F (retireE E s) (retireB E s))
  adv : ∀ (F : Nat → Prop) (E : Epo) (g : Int) (a b : Option Addr) (n c m d : Nat) (w : World), (∀ b, F b → b < w.heap.size) → PList w F g a n c b m d E → n ≤ 1000 → m ≤ 1000 →
    Calls Try.prog 21 #[epoV g a n c b m d] w (EpoPost w F (advE E) (advB E))
  forget : ∀ (F : Nat → Prop) (E : Epo) (s : Int) (g : Int) (a b : Option Addr) (n c m d : Nat) (w : World), (∀ b, F b → b < w.heap.size) → PList w F g a n c b m d E → n ≤ 1000 → m ≤ 1000 →
    Calls Try.prog 23 #[epoV g a n c b m d, .int .i64 s] w (EpoPost w F (forgetE E s) (forgetB E s))
  ready : ∀ (F : Nat → Prop) (E : Epo) (g : Int) (a b : Option Addr) (n c m d : Nat) (w : World), (∀ b, F b → b < w.heap.size) → PList w F g a n c b m d E → n ≤ 1000 → m ≤ 1000 →
    Calls Try.prog 22 #[epoV g a n c b m d] w (RdyPost w E)
/-- where the law's agree stands: the box of its own, and two boxes -/
structure EAg (w W : World) (XR XO YO : Obj) (X Y : Nat) : Prop where
  hx : W.heap[w.heap.size]? = some XR
  hX : W.heap[X]? = some XO
  hY : W.heap[Y]? = some YO
  hb : Below w.heap.size w W
  hh : w.heap.size < X ∧ X < Y
section
variable {w W W' : World} {XR XO YO : Obj} {X Y : Nat}
theorem EAg.on (K : EAg w W XR XO YO X Y) (h : Below W.heap.size W W') : EAg w W' XR XO YO X Y := ⟨e_on h K.hx (e_lt K.hx), e_on h K.hX (e_lt K.hX), e_on h K.hY (e_lt K.hY), K.hb.trans (h.mono K.hb.size), K.hh⟩
theorem EAg.drew (K : EAg w W XR XO YO X Y) : EAg w W.drew XR XO YO X Y := K.on (Below.refl _ _).drew
theorem EAg.putX {cs cs' : Array Value} {t : TypeId} (K : EAg w W XR (.cells cs t (0, 0)) YO X Y) {XO' : Obj} (h : XO' = .cells cs' t (0, 0)) : EAg w (W.setRow X cs') XR XO' YO X Y := by
  subst h
  have := K.hh
  exact ⟨(setRow_other _ _ _ _ (by omega)).trans K.hx, setRow_heap _ _ _ _ _ _ K.hX, (setRow_other _ _ _ _ (by omega)).trans K.hY, below_setRow K.hb (by omega) _, K.hh⟩
theorem EAg.putY {cs cs' : Array Value} {t : TypeId} (K : EAg w W XR XO (.cells cs t (0, 0)) X Y) {YO' : Obj} (h : YO' = .cells cs' t (0, 0)) : EAg w (W.setRow Y cs') XR XO YO' X Y := by
  subst h
  have := K.hh
  exact ⟨(setRow_other _ _ _ _ (by omega)).trans K.hx, (setRow_other _ _ _ _ (by omega)).trans K.hX, setRow_heap _ _ _ _ _ _ K.hY, below_setRow K.hb (by omega) _, K.hh⟩
theorem EAg.far (K : EAg w W XR XO YO X Y) {b : Nat} (h : Plus (fun b => b < w.heap.size) W.heap.size b) : b ≠ X ∧ b ≠ Y := by
  have h1 := K.hh
  have h2 := e_lt K.hX
  have h3 := e_lt K.hY
  rcases h with h | h <;> omega
end
set_option maxHeartbeats 16000000 in
set_option maxRecDepth 20000 in
theorem epoAgree_any (H : EpochOk) (F : Nat → Prop) (E : Epo) (slot zone g : Int) (a b : Option Addr) (n c m d : Nat) (w : World) (hl : PList w F g a n c b m d E) (hn : n ≤ 1000) (hm : m ≤ 1000) :
    Calls Try.prog 7 #[epoV g a n c b m d, .int .i64 slot, .int .i64 zone] w fun r w' => r = .returned (.bool true) ∧ Below w.heap.size w w' := by
  have hb := (Below.refl w.heap.size w).alloc (Nat.le_refl _) (epoRow g a n c b m d)
  have hx := heap_alloc_new w (epoRow g a n c b m d)
  have hlw : ∀ W, Below w.heap.size w W → PList W (fun b => b < w.heap.size) g a n c b m d E := fun W h => hl.same h
  have hFw : ∀ W, Below w.heap.size w W → ∀ b, b < w.heap.size → b < W.heap.size := fun W h b hb => Nat.lt_of_lt_of_le hb h.size
  have v1 := fun W h => H.valid _ E g a b n c m d W (hFw W h) (hlw W h) hn hm
  have v2 := fun W h => refEValid_any _ E g a b n c m d W (hlw W h)
  have r1 := fun W h => H.ready _ E g a b n c m d W (hFw W h) (hlw W h) hn hm
  have r2 := fun W h => refReady_any _ E g a b n c m d W (hlw W h)
  have hpin1 := fun W h => H.pin _ E slot g a b n c m d W (hFw W h) (hlw W h) hn hm
  have hpin2 := fun W h => refPin_any _ E slot g a b n c m d W (hlw W h)
  have hunpin1 := fun W h => H.unpin _ E slot g a b n c m d W (hFw W h) (hlw W h) hn hm
  have hunpin2 := fun W h => refUnpin_any _ E slot g a b n c m d W (hlw W h)
  have hretire1 := fun W h => H.retire _ E zone g a b n c m d W (hFw W h) (hlw W h) hn hm
  have hretire2 := fun W h => refRetire_any _ E zone g a b n c m d W (hlw W h) (by omega)
  have hadv1 := fun W h => H.adv _ E g a b n c m d W (hFw W h) (hlw W h) hn hm
  have hadv2 := fun W h => refAdvance_any _ E g a b n c m d W (hlw W h)
  have hforget1 := fun W h => H.forget _ E zone g a b n c m d W (hFw W h) (hlw W h) hn hm
  have hforget2 := fun W h => refForget_any _ E zone g a b n c m d W (hlw W h) (by omega)
  clear hlw hFw hl
  unfold EpoPost at hpin1 hpin2 hunpin1 hunpin2 hretire1 hretire2 hadv1 hadv2 hforget1 hforget2
  unfold RdyPost at r1 r2
  generalize validE E = VB at v1 v2
  generalize readyZ E = RZ at r1 r2
  generalize readyB E = RB at r1 r2
  generalize pinE E slot = Dpin at hpin1 hpin2
  generalize pinB E slot = Bpin at hpin1 hpin2
  generalize unpinE E slot = Dunpin at hunpin1 hunpin2
  generalize unpinB E slot = Bunpin at hunpin1 hunpin2
  generalize retireE E zone = Dretire at hretire1 hretire2
  generalize retireB E zone = Bretire at hretire1 hretire2
  generalize advE E = Dadv at hadv1 hadv2
  generalize advB E = Badv at hadv1 hadv2
  generalize forgetE E zone = Dforget at hforget1 hforget2
  generalize forgetB E zone = Bforget at hforget1 hforget2
  have V1 := Lib.hid v1
  have V2 := Lib.hid v2
  have R1 := Lib.hid r1
  have R2 := Lib.hid r2
  have Hpin1 := Lib.hid hpin1
  have Hpin2 := Lib.hid hpin2
  have Hunpin1 := Lib.hid hunpin1
  have Hunpin2 := Lib.hid hunpin2
  have Hretire1 := Lib.hid hretire1
  have Hretire2 := Lib.hid hretire2
  have Hadv1 := Lib.hid hadv1
  have Hadv2 := Lib.hid hadv2
  have Hforget1 := Lib.hid hforget1
  have Hforget2 := Lib.hid hforget2
  clear v1 v2 r1 r2 hpin1 hpin2 hunpin1 hunpin2 hretire1 hretire2 hadv1 hadv2 hforget1 hforget2
  go_enter Try.func7, Try.ntmps7
  have c0 := (three_row hx).1
  generalize hw0 : w.alloc (epoRow g a n c b m d) = w0 at *
  go_wp2_with (first
    | (go_at_call 19; ((with_reducible refine (Hpin1.out _ hb).mono ?_); rintro r9 w5 ⟨xg, xa, xn, xc, xb, xm, xd, rfl, lx, h9⟩; have kX := e_lt (e_on h9 hx (e_lt hx)); have hb1 := hb.trans (h9.mono hb.size); have hx1 := e_al (e_on h9 hx (e_lt hx)) (epoRow xg xa xn xc xb xm xd); have hX := heap_alloc_new w5 (epoRow xg xa xn xc xb xm xd); have lx1 := lx.cut.on (Same.alloc w5 (epoRow xg xa xn xc xb xm xd)); have hsz : (w5.alloc (epoRow xg xa xn xc xb xm xd)).heap.size = w5.heap.size + 1 := (by simp); have hb2 := hb1.alloc hb1.size (epoRow xg xa xn xc xb xm xd); clear hw0 Hpin1 h9 hb hb1 hx lx; have hb := hb2; have hx := hx1; have lx := lx1; clear hb2 hx1 lx1; have c0 := (three_row hx).1))
    | ((with_reducible refine Plan.load_lit 25 (.tmp 3) (w.heap.size) ?_ hx Try.underlying25 ?_ ?_ ?_); (· rfl); (· rfl); (· exact epo_info); simp only [Act.put, List.setIfInBounds_toArray, List.set_cons_zero, List.set_cons_succ])
    | (go_at_call 25; ((with_reducible refine (Hpin2.out _ hb).mono ?_); rintro r9 w6 ⟨yg, ya, yn, yc, yb, ym, yd, rfl, ly, h9⟩; have kY := e_lt (e_on h9 hX (e_lt hX)); have hb1 := hb.trans (h9.mono hb.size); have K : EAg w (w6.alloc (epoRow yg ya yn yc yb ym yd)) (epoRow g a n c b m d) (epoRow xg xa xn xc xb xm xd) (epoRow yg ya yn yc yb ym yd) w5.heap.size w6.heap.size := ⟨e_al (e_on h9 hx (e_lt hx)) (epoRow yg ya yn yc yb ym yd), e_al (e_on h9 hX (e_lt hX)) (epoRow yg ya yn yc yb ym yd), heap_alloc_new w6 (epoRow yg ya yn yc yb ym yd), hb1.alloc hb1.size (epoRow yg ya yn yc yb ym yd), kX, kY⟩; have lx1 := ((lx.cut.on (Same.below h9)).on (Same.alloc w6 (epoRow yg ya yn yc yb ym yd))).mono (G := fun b => b ≠ w5.heap.size ∧ b ≠ w6.heap.size) (fun b _ h => by have h1 := h.2; have h0 := h.1.2; exact ⟨by omega, by omega⟩); have ly1 := (ly.cut.on (Same.alloc w6 (epoRow yg ya yn yc yb ym yd))).mono (G := fun b => b ≠ w5.heap.size ∧ b ≠ w6.heap.size) (fun b _ h => by have h1 := h.2; rcases h.1 with h2 | h2; (· exact ⟨by omega, by omega⟩); (· rw [hsz] at h2; exact ⟨by omega, by omega⟩)); clear hsz Hpin2 h9 hb1 hb hx hX lx ly kX kY c0; have lx := lx1; have ly := ly1; clear lx1 ly1)))
  generalize w5.heap.size = X at *
  generalize w6.heap.size = Y at *
  refine Plan.start (fun W => (W.cell? ⟨w.heap.size, 0, none⟩ = some (.int .i64 g) ∧ W.cell? ⟨w.heap.size, 1, none⟩ = some (.slice a n c) ∧ W.cell? ⟨w.heap.size, 2, none⟩ = some (.slice b m d)) ∧ (W.cell? ⟨X, 0, none⟩ = some (.int .i64 xg) ∧ W.cell? ⟨X, 1, none⟩ = some (.slice xa xn xc) ∧ W.cell? ⟨X, 2, none⟩ = some (.slice xb xm xd)) ∧ W.cell? ⟨Y, 0, none⟩ = some (.int .i64 yg) ∧ W.cell? ⟨Y, 1, none⟩ = some (.slice ya yn yc) ∧ W.cell? ⟨Y, 2, none⟩ = some (.slice yb ym yd)) [(0, true), (1, true), (2, true), (3, true), (4, true), (5, true), (6, false), (7, true), (8, true), (9, true), (10, true), (12, true), (11, false), (13, false), (14, true), (15, true)] (by kernel_rfl) (by kernel_rfl) (by kernel_rfl) (by kernel_rfl) (show _ from ⟨three_row K.drew.hx, three_row K.drew.hX, three_row K.drew.hY⟩) ?_
  simp only [List.map_cons, List.map_nil, List.getElem?_toArray, List.getElem?_cons_zero, List.getElem?_cons_succ]
  repeat (first | (refine Plan.take ?_ (by rfl) ?_ ?_; rotate_left; (· rintro w9 ⟨⟨c0, c1, c2⟩, ⟨x0, x1, x2⟩, y0, y1, y2⟩; go_simp; (try rw [if_neg (by omega)]); all_goals (with_reducible rfl)); simp only [Act.put, List.setIfInBounds_toArray, List.set_cons_zero, List.set_cons_succ]) | (refine Plan.pass (by rfl) ?_; simp only [Act.put, List.setIfInBounds_toArray, List.set_cons_zero, List.set_cons_succ]))
  have K1 := K.drew
  have lx1 := lx.on (w' := (w6.alloc (epoRow yg ya yn yc yb ym yd)).drew) ⟨Nat.le_refl _, fun _ _ _ => rfl⟩
  have ly1 := ly.on (w' := (w6.alloc (epoRow yg ya yn yc yb ym yd)).drew) ⟨Nat.le_refl _, fun _ _ _ => rfl⟩
  clear K lx ly
  have K := K1
  have lx := lx1
  have ly := ly1
  clear K1 lx1 ly1
  refine Plan.call (by rfl) 12 _ ?_ (refESame_any _ _ _ _ _ _ _ _ _ _ _ _ _ _ _ _ _ _ lx ly) ?_
  · go_simp
  rintro r9 w7 ⟨rfl, h9⟩
  have K1 := K.on h9
  clear h9 K
  have K := K1
  clear K1
  refine ⟨_, rfl, ⟨three_row K.hx, three_row K.hX, three_row K.hY⟩, ?_⟩
  simp only [Act.put, List.setIfInBounds_toArray, List.set_cons_zero, List.set_cons_succ]
  repeat (first | (refine Plan.take ?_ (by rfl) ?_ ?_; rotate_left; (· rintro w9 ⟨⟨c0, c1, c2⟩, ⟨x0, x1, x2⟩, y0, y1, y2⟩; go_simp; (try rw [if_neg (by omega)]); all_goals (with_reducible rfl)); simp only [Act.put, List.setIfInBounds_toArray, List.set_cons_zero, List.set_cons_succ]) | (refine Plan.pass (by rfl) ?_; simp only [Act.put, List.setIfInBounds_toArray, List.set_cons_zero, List.set_cons_succ]))
  clear lx ly
  refine Plan.call (by rfl) 24 _ ?_ (V1.out _ K.hb) ?_
  · go_simp
  rintro r9 w7 ⟨rfl, h9⟩
  have K1 := K.on h9
  clear h9 K
  have K := K1
  clear K1
  refine ⟨_, rfl, ⟨three_row K.hx, three_row K.hX, three_row K.hY⟩, ?_⟩
  simp only [Act.put, List.setIfInBounds_toArray, List.set_cons_zero, List.set_cons_succ]
  repeat (first | (refine Plan.take ?_ (by rfl) ?_ ?_; rotate_left; (· rintro w9 ⟨⟨c0, c1, c2⟩, ⟨x0, x1, x2⟩, y0, y1, y2⟩; go_simp; (try rw [if_neg (by omega)]); all_goals (with_reducible rfl)); simp only [Act.put, List.setIfInBounds_toArray, List.set_cons_zero, List.set_cons_succ]) | (refine Plan.pass (by rfl) ?_; simp only [Act.put, List.setIfInBounds_toArray, List.set_cons_zero, List.set_cons_succ]))
  refine Plan.call (by rfl) 26 _ ?_ (V2.out _ K.hb) ?_
  · go_simp
  rintro r9 w7 ⟨rfl, h9⟩
  have K1 := K.on h9
  clear h9 K
  have K := K1
  clear K1
  refine ⟨_, rfl, ⟨three_row K.hx, three_row K.hX, three_row K.hY⟩, ?_⟩
  simp only [Act.put, List.setIfInBounds_toArray, List.set_cons_zero, List.set_cons_succ]
  repeat (first | (refine Plan.take ?_ (by rfl) ?_ ?_; rotate_left; (· rintro w9 ⟨⟨c0, c1, c2⟩, ⟨x0, x1, x2⟩, y0, y1, y2⟩; go_simp; (try rw [if_neg (by omega)]); all_goals (with_reducible rfl)); simp only [Act.put, List.setIfInBounds_toArray, List.set_cons_zero, List.set_cons_succ]) | (refine Plan.pass (by rfl) ?_; simp only [Act.put, List.setIfInBounds_toArray, List.set_cons_zero, List.set_cons_succ]))
  refine Plan.ends ?_
  clear V1 V2
  generalize w7 = w9 at *
  go_wp2_with (first
    | (go_at_call 18; ((with_reducible refine (Hunpin1.out _ K.hb).mono ?_); rintro r9 w5 ⟨xg, xa, xn, xc, xb, xm, xd, rfl, lx, h9⟩; have lx1 := lx.mono (G := fun b => b ≠ X ∧ b ≠ Y) (fun b _ h => K.far h); have K1 := K.on h9; clear Hunpin1 h9 lx K; have K := K1; have lx := lx1; clear K1 lx1))
    | (go_at_call 27; ((with_reducible refine (Hunpin2.out _ K.hb).mono ?_); rintro r9 w6 ⟨yg, ya, yn, yc, yb, ym, yd, rfl, ly, h9⟩; have ly1 := ly.mono (G := fun b => b ≠ X ∧ b ≠ Y) (fun b _ h => K.far h); have lx1 := lx.on (Same.below h9); have K1 := K.on h9; clear Hunpin2 h9 lx ly K; have K := K1; have lx := lx1; have ly := ly1; clear K1 lx1 ly1))
    | (go_at_call 20; ((with_reducible refine (Hretire1.out _ K.hb).mono ?_); rintro r9 w5 ⟨xg, xa, xn, xc, xb, xm, xd, rfl, lx, h9⟩; have lx1 := lx.mono (G := fun b => b ≠ X ∧ b ≠ Y) (fun b _ h => K.far h); have K1 := K.on h9; clear Hretire1 h9 lx K; have K := K1; have lx := lx1; clear K1 lx1))
    | (go_at_call 28; ((with_reducible refine (Hretire2.out _ K.hb).mono ?_); rintro r9 w6 ⟨yg, ya, yn, yc, yb, ym, yd, rfl, ly, h9⟩; have ly1 := ly.mono (G := fun b => b ≠ X ∧ b ≠ Y) (fun b _ h => K.far h); have lx1 := lx.on (Same.below h9); have K1 := K.on h9; clear Hretire2 h9 lx ly K; have K := K1; have lx := lx1; have ly := ly1; clear K1 lx1 ly1))
    | (go_at_call 21; ((with_reducible refine (Hadv1.out _ K.hb).mono ?_); rintro r9 w5 ⟨xg, xa, xn, xc, xb, xm, xd, rfl, lx, h9⟩; have lx1 := lx.mono (G := fun b => b ≠ X ∧ b ≠ Y) (fun b _ h => K.far h); have K1 := K.on h9; clear Hadv1 h9 lx K; have K := K1; have lx := lx1; clear K1 lx1))
    | (go_at_call 29; ((with_reducible refine (Hadv2.out _ K.hb).mono ?_); rintro r9 w6 ⟨yg, ya, yn, yc, yb, ym, yd, rfl, ly, h9⟩; have ly1 := ly.mono (G := fun b => b ≠ X ∧ b ≠ Y) (fun b _ h => K.far h); have lx1 := lx.on (Same.below h9); have K1 := K.on h9; clear Hadv2 h9 lx ly K; have K := K1; have lx := lx1; have ly := ly1; clear K1 lx1 ly1))
    | (go_at_call 23; ((with_reducible refine (Hforget1.out _ K.hb).mono ?_); rintro r9 w5 ⟨xg, xa, xn, xc, xb, xm, xd, rfl, lx, h9⟩; have lx1 := lx.mono (G := fun b => b ≠ X ∧ b ≠ Y) (fun b _ h => K.far h); have K1 := K.on h9; clear Hforget1 h9 lx K; have K := K1; have lx := lx1; clear K1 lx1))
    | (go_at_call 30; ((with_reducible refine (Hforget2.out _ K.hb).mono ?_); rintro r9 w6 ⟨yg, ya, yn, yc, yb, ym, yd, rfl, ly, h9⟩; have ly1 := ly.mono (G := fun b => b ≠ X ∧ b ≠ Y) (fun b _ h => K.far h); have lx1 := lx.on (Same.below h9); have K1 := K.on h9; clear Hforget2 h9 lx ly K; have K := K1; have lx := lx1; have ly := ly1; clear K1 lx1 ly1))
    | ((with_reducible refine Plan.load_lit 25 (.tmp 3) (w.heap.size) ?_ K.hx Try.underlying25 ?_ ?_ ?_); (· rfl); (· rfl); (· exact epo_info); simp only [Act.put, List.setIfInBounds_toArray, List.set_cons_zero, List.set_cons_succ])
    | ((with_reducible refine load_lit_gc 25 (.tmp 7) (X) ?_ ?_ K.hX Try.underlying25 ?_ ?_ ?_); (· rfl); (· rfl); (· rfl); (· exact epo_info); simp only [Act.put, List.setIfInBounds_toArray, List.set_cons_zero, List.set_cons_succ])
    | ((with_reducible refine load_lit_gc 25 (.tmp 9) (Y) ?_ ?_ K.hY Try.underlying25 ?_ ?_ ?_); (· rfl); (· rfl); (· rfl); (· exact epo_info); simp only [Act.put, List.setIfInBounds_toArray, List.set_cons_zero, List.set_cons_succ])
    | (go_at_call 12; ((with_reducible refine (refESame_any _ _ _ _ _ _ _ _ _ _ _ _ _ _ _ _ _ _ lx ly).mono ?_); rintro r9 w7 ⟨rfl, h9⟩; have K1 := K.on h9; clear h9 lx ly K; have K := K1; clear K1))
    | ((with_reducible refine Plan.store_lit 25 (.tmp 7) _ X ?_ K.hX ?_ ?_ ?_ ?_ ?_ ?_); rotate_left; (· rfl); (· rfl); (· exact epo_info); (· rfl); (· simp [Value.oneCell']); simp only [Act.put]; have K1 := K.putX (cs' := #[.int .i64 xg, .slice xa xn xc, .slice xb xm xd]) (XO' := epoRow xg xa xn xc xb xm xd) rfl; have lx1 := lx.on (Same.row (r := X) (fun h => h.1 rfl) #[.int .i64 xg, .slice xa xn xc, .slice xb xm xd]); generalize w5.setRow X #[.int .i64 xg, .slice xa xn xc, .slice xb xm xd] = w7 at *; clear K lx; have K := K1; have lx := lx1; clear K1 lx1)
    | ((with_reducible refine Plan.store_lit 25 (.tmp 9) _ Y ?_ K.hY ?_ ?_ ?_ ?_ ?_ ?_); rotate_left; (· rfl); (· rfl); (· exact epo_info); (· rfl); (· simp [Value.oneCell']); simp only [Act.put]; have K1 := K.putY (cs' := #[.int .i64 yg, .slice ya yn yc, .slice yb ym yd]) (YO' := epoRow yg ya yn yc yb ym yd) rfl; have lx1 := lx.on (Same.row (r := Y) (fun h => h.2 rfl) #[.int .i64 yg, .slice ya yn yc, .slice yb ym yd]); have ly1 := ly.on (Same.row (r := Y) (fun h => h.2 rfl) #[.int .i64 yg, .slice ya yn yc, .slice yb ym yd]); generalize w6.setRow Y #[.int .i64 yg, .slice ya yn yc, .slice yb ym yd] = w7 at *; clear K lx ly; have K := K1; have lx := lx1; have ly := ly1; clear K1 lx1 ly1)
    | (go_at_call 22; ((with_reducible refine (R1.out _ K.hb).mono ?_); rintro r9 w8 ⟨rfl, h9⟩; have K1 := K.on h9; clear h9 K R1; have K := K1; clear K1))
    | (go_at_call 16; ((with_reducible refine (R2.out _ K.hb).mono ?_); rintro r9 w8 ⟨rfl, h9⟩; have K1 := K.on h9; clear h9 K R2; have K := K1; clear K1)))
  go_ret
  exact ⟨rfl, K.hb⟩
end Go.Proofs.Ytbfoagfemgogkaa.Ents

/- The walks of the program's possible, isZone and pinsValid of epochs. -/
namespace Go.Proofs.Ytbfoagfemgogkaa.Ents
open Go.RowKit Plan EntMath CntMath EpoMath Rws
theorem epoPossible_any (s : Int) (w : World) : Calls Try.prog 31 #[.int .i64 s] w fun r w' => r = .returned (.bool (decide (1 ≤ s ∧ s ≤ 4))) ∧ w = w' := by
  by_cases h1 : 1 ≤ s
  · by_cases h2 : s ≤ 4
    · rw [decide_eq_true (show 1 ≤ s ∧ s ≤ 4 from ⟨h1, h2⟩)]
      go_enter Try.func31, Try.ntmps31
      go_wp2
      go_ret
      exact ⟨by first | rfl | (simp; omega), rfl⟩
    · rw [decide_eq_false (show ¬ (1 ≤ s ∧ s ≤ 4) from fun h => h2 h.2)]
      go_enter Try.func31, Try.ntmps31
      go_wp2
      go_ret
      exact ⟨by first | rfl | (simp; omega), rfl⟩
  · rw [decide_eq_false (show ¬ (1 ≤ s ∧ s ≤ 4) from fun h => h1 h.1)]
    go_enter Try.func31, Try.ntmps31
    go_wp2
    go_ret
    exact ⟨by first | rfl | (simp; omega), rfl⟩
theorem epoZone_any (t : Int) (w : World) : Calls Try.prog 36 #[.int .i64 t] w fun r w' => r = .returned (.bool (decide (0 ≤ t))) ∧ w = w' := by
  go_enter Try.func36, Try.ntmps36
  go_wp2
  go_ret
  exact ⟨by first | rfl | simp, rfl⟩
theorem pin_ways2 (G p : Int) : (p = -1) ∨ (p ≠ -1 ∧ p < 0) ∨ (p ≠ -1 ∧ ¬ p < 0 ∧ p < G - 1) ∨ (p ≠ -1 ∧ ¬ p < 0 ∧ ¬ p < G - 1 ∧ G < p) ∨ (p ≠ -1 ∧ ¬ p < 0 ∧ ¬ p < G - 1 ∧ ¬ G < p) := by omega
set_option maxHeartbeats 4000000 in
set_option maxRecDepth 20000 in
theorem epoPins_any (F : Nat → Prop) (E : Epo) (g : Int) (a b : Option Addr) (n c m d : Nat) (w : World) (hl : PList w F g a n c b m d E) (h0 : 0 ≤ g) (h1 : g ≤ 1099511627776) :
    Calls Try.prog 40 #[epoV g a n c b m d] w fun r w' => r = .returned (.bool (E.pins.all (okPin g))) ∧ Below w.heap.size w w' := by
  have hlen := hl.p.length
  have hA := (Below.refl w.heap.size w).alloc (Nat.le_refl _) (epoRow g a n c b m d)
  have hr0 := heap_alloc_new w (epoRow g a n c b m d)
  have HP := Lib.hid (fun W (h : Below w.heap.size w W) i (hi : i < n) => (hl.p.same h).at' i hi)
  have hcp := hl.p.cap
  unfold maxLen at hcp
  clear hl
  have hpb := fun j p (he : E.pins[j]? = some p) => @all_bad Int (okPin g) E.pins j p he
  have hpg := @all_good Int (okPin g) E.pins
  generalize E.pins.all (okPin g) = R at *
  have HPB := Lib.hid hpb
  have HPG := Lib.hid hpg
  clear hpb hpg
  have wg : wrap64 (g - 1) = g - 1 := by unfold wrap64; omega
  have wg2 : IntKind.i64.wrap (g - 1) = g - 1 := IntWalk.i64_in _ (by omega)
  go_enter Try.func40, Try.ntmps40
  obtain ⟨c0, c1, c2⟩ := three_row hr0
  generalize hw0 : w.alloc (epoRow g a n c b m d) = w0 at *
  go_wp2_with fail
  clear c0 c1 c2
  go_loopw [4, 8] (fun _ x wr => ∃ j : Nat, x = .int .i64 (j : Int) ∧ j ≤ n ∧ RowKit.Hid (∀ (i : Nat) (p : Int), i < j → E.pins[i]? = some p → okPin g p = true) ∧ wr.heap[w.heap.size]? = some (epoRow g a n c b m d) ∧ Below w.heap.size w wr) (fun _ x _ => n - (intOf x).toNat)
  case atStart => exact ⟨0, rfl, by omega, Lib.hid (fun i p h => absurd h (Nat.not_lt_zero _)), hr0, hA⟩
  case round =>
    clear hr0 hA
    obtain ⟨j, rfl, hj, hbf, hr, hb⟩ := hrel
    obtain ⟨c0, c1, c2⟩ := three_row hr
    by_cases hlt : j < n
    · obtain ⟨x, p, rfl, hz, hcx⟩ := HP.out wr hb j hlt
      have hjI : (j : Int) < (n : Int) := by omega
      have NB := Lib.hid (HPB.out j p hz)
      have NX := Lib.hid (fun (h0 : okPin g p = true) (i : Nat) (y : Int) (hi : i < j + 1) (h : E.pins[i]? = some y) => (show okPin g y = true from by
        rcases Nat.lt_or_ge i j with h1 | h1
        · exact hbf.out i y h1 h
        · obtain rfl : i = j := by omega
          rw [hz] at h
          obtain rfl := Option.some.inj h
          exact h0))
      clear hz
      rcases pin_ways2 g p with q5 | ⟨q5, q6⟩ | ⟨q5, q6, q7⟩ | ⟨q5, q6, q7, q8⟩ | ⟨q5, q6, q7, q8⟩
      · have HN := Lib.hid (NX.out (by unfold okPin; simp [q5]))
        have t1 : (p != -1) = false := by simpa using q5
        go_wp2_with fail
        go_roundw
        case rel => exact ⟨j + 1, by go_num, by omega, HN, hr, hb⟩
        case measure => simp [intOf]; omega
      · have hR := Lib.hid (NB.out (by unfold okPin; simp; omega))
        have t1 : (p != -1) = true := by simpa using q5
        have t2 : decide (p < 0) = true := by simp; omega
        go_wp2_with fail
        go_ret
        exact ⟨i_b (by rw [hR.out]), hb⟩
      · have hR := Lib.hid (NB.out (by unfold okPin; simp; omega))
        have t1 : (p != -1) = true := by simpa using q5
        have t2 : decide (p < 0) = false := by simp; omega
        have t3 : decide (p < g - 1) = true := by simp; omega
        go_wp2_with fail
        go_ret
        exact ⟨i_b (by rw [hR.out]), hb⟩
      · have hR := Lib.hid (NB.out (by unfold okPin; simp; omega))
        have t1 : (p != -1) = true := by simpa using q5
        have t2 : decide (p < 0) = false := by simp; omega
        have t3 : decide (p < g - 1) = false := by simp; omega
        have t4 : decide (g < p) = true := by simp; omega
        go_wp2_with fail
        go_ret
        exact ⟨i_b (by rw [hR.out]), hb⟩
      · have HN := Lib.hid (NX.out (by unfold okPin; simp; omega))
        have t1 : (p != -1) = true := by simpa using q5
        have t2 : decide (p < 0) = false := by simp; omega
        have t3 : decide (p < g - 1) = false := by simp; omega
        have t4 : decide (g < p) = false := by simp; omega
        go_wp2_with fail
        go_roundw
        case rel => exact ⟨j + 1, by go_num, by omega, HN, hr, hb⟩
        case measure => simp [intOf]; omega
    · obtain rfl : j = n := by omega
      have hjI : ¬ (j : Int) < (j : Int) := by omega
      have hA1 := Lib.hid (HPG.out (fun i p hp => hbf.out i p (by have := (List.getElem?_eq_some_iff.1 hp).1; omega) hp))
      clear hbf HP HPB HPG
      go_wp2_with fail
      go_ret
      exact ⟨i_b (by rw [hA1.out]), hb⟩
end Go.Proofs.Ytbfoagfemgogkaa.Ents

/- The walks of the library's bits.Mul at small numbers, of its Repeat at a list of one number, and of its Clone at numbers. -/
namespace Go.Proofs.Ytbfoagfemgogkaa.Reps
open Go.RowKit Plan EntMath CntMath Ents
set_option maxHeartbeats 1000000 in
theorem mul64_one (n : Nat) (h1 : 1 ≤ n) (h2 : n ≤ 8) (w : World) : Calls Try.prog 49 #[.int .u64 1, .int .u64 (n : Int)] w fun r w' => r = .returned (.tuple #[.int .u64 0, .int .u64 (n : Int)]) ∧ w = w' := by
  rcases (show n = 1 ∨ n = 2 ∨ n = 3 ∨ n = 4 ∨ n = 5 ∨ n = 6 ∨ n = 7 ∨ n = 8 by omega) with rfl | rfl | rfl | rfl | rfl | rfl | rfl | rfl
  all_goals
    go_enter Try.func49, Try.ntmps49
    go_wp2
    go_ret2
    exact ⟨rfl, rfl⟩
set_option maxHeartbeats 1000000 in
theorem mul_one' (n : Nat) (h1 : 1 ≤ n) (h2 : n ≤ 8) (w : World) : Calls Try.prog 44 #[.int .u64 1, .int .u64 (n : Int)] w fun r w' => r = .returned (.tuple #[.int .u64 0, .int .u64 (n : Int)]) ∧ w = w' := by
  have H := Lib.hid (mul64_one n h1 h2)
  go_enter Try.func44, Try.ntmps44
  go_wp2_with (first
    | (go_at_call 49; ((with_reducible refine (H.out _).mono ?_); rintro r9 w9 ⟨rfl, rfl⟩)))
  go_ret2
  exact ⟨rfl, rfl⟩
/-- k numbers that have been laid, and the zeros behind them -/
def repL (n k : Nat) (v : Int) : List Int := List.replicate k v ++ List.replicate (n - k) 0
theorem rep_len {n k : Nat} {v : Int} (h : k ≤ n) : (repL n k v).length = n := by unfold repL; simp; omega
theorem rep_none (n : Nat) (v : Int) : repL n 0 v = List.replicate n 0 := by simp [repL]
theorem rep_all (n : Nat) (v : Int) : repL n n v = List.replicate n v := by simp [repL]
theorem rep_next (n k m : Nat) (v : Int) : (intC (repL n k v)).toArray.toList.take k ++ (intC (List.replicate m v) ++ (intC (repL n k v)).toArray.toList.drop (k + (intC (List.replicate m v)).length)) = intC (repL n (k + m) v) := by
  have h1 : (intC (repL n k v)).take k = intC (List.replicate k v) := by
    unfold intC repL
    rw [← List.map_take, List.take_append_of_le_length (by simp), List.take_of_length_le (by simp)]
  have h2 : (intC (repL n k v)).drop (k + (intC (List.replicate m v)).length) = intC (List.replicate (n - (k + m)) 0) := by
    unfold intC repL
    rw [← List.map_drop, List.drop_append, List.drop_of_length_le (by simp), List.nil_append, List.drop_replicate]
    congr 2
    simp
    omega
  show (intC (repL n k v)).take k ++ (intC (List.replicate m v) ++ (intC (repL n k v)).drop _) = _
  rw [h1, h2]
  unfold intC repL
  rw [← List.map_append, ← List.map_append, ← List.append_assoc, List.replicate_append_replicate]
theorem rep_cell {w : World} {g n k m : Nat} {v : Int} (h : w.heap[g]? = some (intRow (repL n k v))) (hm : m ≤ k) : ∀ j u, (intC (List.replicate m v))[j]? = some u → w.cell? ((⟨g, 0, none⟩ : Addr).add j) = some u := by
  intro j u hu
  unfold intC at hu
  rw [List.getElem?_map, List.getElem?_replicate] at hu
  by_cases hj : j < m
  · rw [if_pos hj] at hu
    obtain rfl := Option.some.inj hu
    rw [Addr.add_lit, Nat.zero_add]
    refine row_cell h ?_
    unfold repL
    rw [List.getElem?_append_left (by simp; omega), List.getElem?_replicate, if_pos (by omega)]
  · rw [if_neg hj] at hu
    cases hu
theorem run_copy_rep (w : World) (ty : TypeId) (x : Addr) (g n k m sLen sCap dLen dCap : Nat) (v : Int) (hm : m = Nat.min sLen dLen) (hg : w.heap[g]? = some (intRow (repL n k v))) (hkm : k + m ≤ n)
    (hsrc : ∀ j u, (intC (List.replicate m v))[j]? = some u → w.cell? (x.add j) = some u) :
    (Builtin.copy_ #[22, 22] ty #[.slice (some ⟨g, k, none⟩) dLen dCap, .slice (some x) sLen sCap]).run Try.prog w = .ok (goInt m) (w.setRow g (intC (repL n (k + m) v)).toArray) := by
  have hl : (intC (List.replicate m v)).length = m := by rw [intC_len]; simp
  have h := run_copy_row (P := Try.prog) w 22 22 ty 3 g k dLen dCap x sLen sCap (intC (repL n k v)).toArray 3 (intC (List.replicate m v)) Try.underlying22 Put.int_info1 hg (by rw [hl]; exact hm) hsrc (by rw [hl, List.size_toArray, intC_len, rep_len (by omega)]; exact hkm) (intC_flat _)
  rw [List.append_assoc, rep_next, hl] at h
  exact h
theorem copy_rep {w : World} {ops : Array Oper} {rest : List Oper} {a : Act} {Q : Exit → Act → World → Prop} (dst : Option Tmp) (d s : Operand) {t' : TypeId} {pos : String} {after : Array Edge}
    (x : Addr) (g n k m sLen sCap dLen dCap : Nat) (v : Int) (hd : a.eval d = .slice (some ⟨g, k, none⟩) dLen dCap) (hs : a.eval s = .slice (some x) sLen sCap) (hm : m = Nat.min sLen dLen) (hg : w.heap[g]? = some (intRow (repL n k v))) (hkm : k + m ≤ n)
    (hsrc : ∀ j u, (intC (List.replicate m v))[j]? = some u → w.cell? (x.add j) = some u)
    (h : wpList Try.prog ops Q rest (a.put dst (goInt m)) (w.setRow g (intC (repL n (k + m) v)).toArray)) :
    wpList Try.prog ops Q (⟨dst, .call { callee := .builtin .copy, args := #[d, s], argTypes := #[22, 22] }, t', pos, after, none⟩ :: rest) a w := by
  refine wpList_plain rfl fun K hK => ?_
  have hrun := run_copy_rep w t' x g n k m sLen sCap dLen dCap v hm hg hkm hsrc
  unfold Oper.wp
  simp [execOp, resolve, invoke, builtin, hd, hs, hrun, Result.andThen]
  exact hK _ _ h
theorem wp_copy_rep {w : World} {o : Oper} {a : Act} {K : Act → World → Prop} {Q : Exit → Act → World → Prop} (d s : Operand)
    (ho : o.op = .call { callee := .builtin .copy, args := #[d, s], argTypes := #[22, 22] })
    (x : Addr) (g n k m sLen sCap dLen dCap : Nat) (v : Int) (hd : a.eval d = .slice (some ⟨g, k, none⟩) dLen dCap) (hs : a.eval s = .slice (some x) sLen sCap) (hm : m = Nat.min sLen dLen) (hg : w.heap[g]? = some (intRow (repL n k v))) (hkm : k + m ≤ n)
    (hsrc : ∀ j u, (intC (List.replicate m v))[j]? = some u → w.cell? (x.add j) = some u)
    (h : K (a.put o.dst (goInt m)) (w.setRow g (intC (repL n (k + m) v)).toArray)) : o.wp Try.prog a w K Q := by
  have hrun := run_copy_rep w o.type x g n k m sLen sCap dLen dCap v hm hg hkm hsrc
  unfold Oper.wp
  simp [execOp, ho, resolve, invoke, builtin, hd, hs, hrun, Result.andThen]
  exact h
set_option maxHeartbeats 4000000 in
set_option maxRecDepth 20000 in
theorem repeat_any (v : Int) (x n : Nat) (w : World) (fr : Nat × Nat) (hx : w.heap[x]? = some (.cells #[.int .i64 v] 3 fr)) (h1 : 1 ≤ n) (h2 : n ≤ 8) :
    Calls Try.prog 32 #[.slice (some ⟨x, 0, none⟩) 1 1, .int .i64 (n : Int)] w fun r w' => ∃ g, r = .returned (.slice (some ⟨g, 0, none⟩) n n) ∧ w.heap.size ≤ g ∧ w'.heap[g]? = some (intRow (List.replicate n v)) ∧ Below w.heap.size w w' := by
  have HM := Lib.hid (fun w => mul_one' n h1 h2 w)
  have hmk := fun w => run_make_row' (P := Try.prog) 22 3 (.int .i64 0) 8 Try.underlying22 int_row rfl .i64 .i64 n (by omega) (by omega) w
  have hxl := e_lt hx
  have hg0 : decide ((n : Int) < 0) = false := by simp
  have hg1 : ¬ (n : Int) < 0 := by omega
  have hg2 : decide (9223372036854775807 < (n : Int)) = false := by simp; omega
  have hg3 : decide (9223372036854775807 < n) = false := by simp; omega
  have hwn : wrap64 (n : Int) = n := by unfold wrap64; omega
  have hun : IntKind.u64.wrap (n : Int) = n := by have e : IntKind.u64.wrap (n : Int) = (n : Int) % 18446744073709551616 := rfl; omega
  go_enter Try.func32, Try.ntmps32
  have HN := Lib.hid (⟨h1, h2⟩ : 1 ≤ n ∧ n ≤ 8)
  have HG := Lib.hid ((heap_alloc_new w (.cells (madeCells #[.int .i64 0] n) 3)).trans (congrArg some ((zero_row n).trans (by rw [← rep_none n v]))))
  have HX := Lib.hid (fun (j : Nat) u (hu : (intC (List.replicate 1 v))[j]? = some u) => (show (w.alloc (.cells (madeCells #[.int .i64 0] n) 3)).cell? ((⟨x, 0, none⟩ : Addr).add j) = some u from by
    have hj : j = 0 := by have := (List.getElem?_eq_some_iff.1 hu).1; rw [intC_len] at this; simp at this; exact this
    subst hj
    cases hu
    exact cell_of_row _ _ 0 _ _ _ (e_al hx _)))
  have HB := Lib.hid ((Below.refl w.heap.size w).alloc (Nat.le_refl _) (.cells (madeCells #[.int .i64 0] n) 3))
  clear hx
  go_wp2_with (first
    | (go_at_call 44; ((with_reducible refine (HM.out _).mono ?_); rintro r9 w9 ⟨rfl, rfl⟩))
    | ((with_reducible refine copy_rep (some 33) (.tmp 31) (.tmp 32) ⟨x, 0, none⟩ w.heap.size n 0 1 1 1 n n v ?_ ?_ ?_ HG.out ?_ HX.out ?_); (· rfl); (· rfl); (· have := HN.out; exact (Nat.min_eq_left this.1).symm); (· have := HN.out; omega); simp only [Act.put]; have G2 := setRow_heap _ w.heap.size _ (intC (repL n (0 + 1) v)).toArray _ _ HG.out; have B2 := below_setRow HB.out (Nat.le_refl _) (intC (repL n (0 + 1) v)).toArray; rw [Nat.zero_add] at G2 B2 ⊢; generalize (w.alloc (.cells (madeCells #[.int .i64 0] n) 3)).setRow w.heap.size (intC (repL n 1 v)).toArray = w2 at *))
  clear hmk HM HG HB HX
  go_loopw [8] (fun y wr => ∃ k : Nat, y = .int .i64 (k : Int) ∧ 1 ≤ k ∧ k ≤ n ∧ wr.heap[w.heap.size]? = some (intRow (repL n k v)) ∧ Below w.heap.size w wr) (fun y _ => n - (intOf y).toNat)
  case atStart => exact ⟨1, rfl, Nat.le_refl _, h1, G2, B2⟩
  case round =>
    clear G2 B2
    obtain ⟨k, rfl, hk1, hk, hg, hb⟩ := hrel
    by_cases hlt : k < n
    · have hkI : (k : Int) < (n : Int) := by omega
      have hgd := (show wr.drew.heap[w.heap.size]? = _ from hg)
      have hbd := hb.drew
      have hmn : Nat.min k (n - k) ≤ n - k := Nat.min_le_right _ _
      have hmk : Nat.min k (n - k) ≤ k := Nat.min_le_left _ _
      have hm0 : 1 ≤ Nat.min k (n - k) := Nat.le_min.2 ⟨hk1, by omega⟩
      obtain ⟨m, hm⟩ : ∃ m, m = Nat.min k (n - k) := ⟨_, rfl⟩
      rw [← hm] at hmn hmk hm0
      have hwm : IntKind.i64.wrap ((k : Int) + (m : Int)) = (k : Int) + (m : Int) := IntWalk.i64_in _ (by omega)
      replace hm := Lib.hid hm
      go_wp2_with fail
      refine Plan.start (fun _ => True) [(0, true), (1, true), (2, true), (3, true), (4, true), (5, true), (6, true), (7, false), (8, true), (9, true)] (by kernel_rfl) (by kernel_rfl) (by kernel_rfl) (by kernel_rfl) trivial ?_
      simp only [List.map_cons, List.map_nil, List.getElem?_toArray, List.getElem?_cons_zero, List.getElem?_cons_succ]
      repeat (first | (refine Plan.take ?_ (by rfl) ?_ ?_; rotate_left; (· rintro w9 -; go_simp; (try rw [if_neg (by omega)]); all_goals (with_reducible rfl)); simp only [Act.put, List.setIfInBounds_toArray, List.set_cons_zero, List.set_cons_succ]))
      refine Plan.carry (by rfl) (wp_copy_rep (.tmp 41) (.tmp 44) rfl ⟨w.heap.size, 0, none⟩ w.heap.size n k m _ _ _ _ v (by rfl) (by rfl) hm.out hgd (by omega) (rep_cell hgd hmk) ?_)
      have G3 := setRow_heap _ w.heap.size _ (intC (repL n (k + m) v)).toArray _ _ hgd
      have B3 := below_setRow hbd (Nat.le_refl _) (intC (repL n (k + m) v)).toArray
      generalize wr.drew.setRow w.heap.size (intC (repL n (k + m) v)).toArray = w3 at *
      refine ⟨trivial, ?_⟩
      simp only [Act.put, List.setIfInBounds_toArray, List.set_cons_zero, List.set_cons_succ]
      repeat (first | (refine Plan.take ?_ (by rfl) ?_ ?_; rotate_left; (· rintro w9 -; go_simp; (try rw [if_neg (by omega)]); all_goals (with_reducible rfl)); simp only [Act.put, List.setIfInBounds_toArray, List.set_cons_zero, List.set_cons_succ]))
      refine Plan.ends ?_
      go_wp2_with fail
      go_roundw
      case rel => exact ⟨k + m, by go_num, by omega, by omega, G3, B3⟩
      case measure => simp [intOf]; omega
    · obtain rfl : k = n := by omega
      have hrI : ¬ (k : Int) < (k : Int) := by omega
      go_wp2_with fail
      go_ret
      exact ⟨w.heap.size, rfl, Nat.le_refl _, by rw [← rep_all]; exact hg, hb⟩
/-- a list of numbers of the call's own, with its block -/
def OwnI (w : World) (B n : Nat) (Z : List Int) (r : Ending) (w' : World) : Prop :=
  ∃ g c, r = .returned (.slice (some ⟨g, 0, none⟩) n c) ∧ B ≤ g ∧ g < w'.heap.size ∧ w'.ownsRow B 3 1 (.slice (some ⟨g, 0, none⟩) n c) n (intC Z) ∧ Below B w w'
set_option maxHeartbeats 1000000 in
theorem iclone_any (F : Nat → Prop) (Z : List Int) (x : Addr) (n c : Nat) (w : World) (hl : IList w F (some x) n c Z) (hn : 0 < n) (hm : n ≤ 1000) :
    Calls Try.prog 45 #[.slice (some x) n c] w (OwnI w w.heap.size n Z) := by
  have hlen := hl.length
  obtain ⟨x', hx', hxl, hC⟩ := hl.some' hn
  obtain rfl := Option.some.inj hx'
  obtain ⟨i1, hi1, hy0, hy1, hy2⟩ := info_parts int_info
  have hA := (Below.refl w.heap.size w).alloc (Nat.le_refl _) (.cells #[] 3)
  have HC2 := Lib.hid (fun j u (hu : (intC Z)[j]? = some u) => (hA.cell (show (x.add j).block < w.heap.size by rw [ent_add_block]; exact hxl)).trans (intC_cell hC j u hu))
  have HC3 := Lib.hid (intC_flat Z)
  have HO3 := Lib.hid (ints_empty w (H := w.heap.size) rfl)
  have hCl : (intC Z).length = n := by rw [intC_len]; exact hlen
  have q22 : ∀ (w : World) (a : Option Addr) (n c n' c' : Nat), (binOp .eql 22 (.slice a n c) (.slice none n' c')).run Try.prog w = .ok (.bool a.isNone) w := fun w a n c n' c' => Lib.run_eql_slice_nil w _ _ a n c n' c' Try.underlying22
  unfold OwnI
  clear hl hC
  go_enter Try.func45, Try.ntmps45
  go_wp2_with (first
    | (at_builtin; refine wpList_append_lies _ rfl _ _ 22 rfl w.heap.size 3 i1 _ 1 8 Try.underlying22 hi1 hy0 hy1 hy2 rfl (by decide) _ 0 [] (by rfl) HO3.out x n c (intC Z) rfl (by omega) HC2.out HC3.out (by omega) (by unfold maxLen; omega) (by omega) (by simp) _ rfl ?_; intro g7 c7 w7 hown7 hgrow7 hat7 hlt7; rw [Nat.zero_add, List.nil_append] at hown7; have hg7 := hown7.lt g7 rfl; have b7 := hA.grown hgrow7 hA.size (fun z9 h9 => by have h8 := Option.some.inj (show some w.heap.size = some z9 from h9); omega)))
  go_ret
  exact ⟨g7, c7, rfl, hg7.1, hg7.2, hown7, b7⟩
end Go.Proofs.Ytbfoagfemgogkaa.Reps
