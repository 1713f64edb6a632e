
/- What the program's shard is to do, in the words of the contracts of the document's own; the walk of the law's agree under it. -/
import Derived.Test.YtbaclgedohpibaaEntMake
namespace Go.Proofs.Ytbaclgedohpibaa.Ents
open Go.RowKit Plan EntMath
structure ShardOk : Prop where
  valid : ∀ (F : Nat → Prop) (L : List Ent) (a : Option Addr) (len cap : Nat) (w : World), EList w F a len cap L → len ≤ 100000 →
    Calls Try.prog 22 #[.slice a len cap] w fun r w' => r = .returned (.bool (validB L)) ∧ Below w.heap.size w w'
  find : ∀ (F : Nat → Prop) (L : List Ent) (b : Int) (a : Option Addr) (len cap : Nat) (w : World), EList w F a len cap L → len ≤ 100000 →
    Calls Try.prog 20 #[.slice a len cap, .int .i64 b] w fun r w' => r = .returned (findV L b) ∧ Below w.heap.size w w'
  install : ∀ (F : Nat → Prop) (L : List Ent) (e : Ent) (a : Option Addr) (len cap : Nat) (w : World), (∀ b, F b → b < w.heap.size) → EList w F a len cap L → len ≤ 100000 →
    Calls Try.prog 19 #[.slice a len cap, entV e] w (InstPost w F (installL L e) (installE L e) (newer L e))
  relocate : ∀ (F : Nat → Prop) (L : List Ent) (b v fz fo tz to m : Int) (a : Option Addr) (len cap : Nat) (w : World), (∀ b, F b → b < w.heap.size) → EList w F a len cap L → len ≤ 100000 →
    Calls Try.prog 21 #[.slice a len cap, .int .i64 b, .int .i64 v, .agg #[.int .i64 fz, .int .i64 fo], .agg #[.int .i64 tz, .int .i64 to], .int .i64 m] w (RelPost w F (relocL L b v fz fo tz to m) (moves L b v fz fo tz to m))
  drop : ∀ (F : Nat → Prop) (L : List Ent) (cut : Int) (a : Option Addr) (len cap : Nat) (w : World), (∀ b, F b → b < w.heap.size) → EList w F a len cap L → len ≤ 100000 →
    Calls Try.prog 23 #[.slice a len cap, .int .i64 cut] w (DropPost w F (stayL L cut) (goneL L cut))
theorem EList.keep {w w' : World} {F : Nat → Prop} {a : Option Addr} {len cap : Nat} {L : List Ent} (h : EList w F a len cap L) (hb : Below w.heap.size w w') : EList w' F a len cap L := h.on (Same.below hb)
set_option maxHeartbeats 8000000 in
set_option maxRecDepth 20000 in
theorem shAgree_any (H : ShardOk) (F : Nat → Prop) (L : List Ent) (e : Ent) (block version cut fz fo tz to : Int) (a : Option Addr) (len cap : Nat) (w : World) (hF : ∀ b, F b → b < w.heap.size) (hl : EList w F a len cap L) (hm : len ≤ 100000) :
    Calls Try.prog 8 #[.slice a len cap, entV e, .int .i64 block, .int .i64 version, .int .i64 cut, .agg #[.int .i64 fz, .int .i64 fo], .agg #[.int .i64 tz, .int .i64 to]] w fun r w' => r = .returned (.bool true) ∧ Below w.heap.size w w' := by
  have hA := (((Below.refl w.heap.size w).alloc (Nat.le_refl _) (entRow e.block e.kind e.version e.move e.zone e.offset)).alloc (by simp) (placeRow fz fo)).alloc (by simp; omega) (placeRow tz to)
  have hx0 := e_al (heap_first w (entRow e.block e.kind e.version e.move e.zone e.offset) (placeRow fz fo)) (placeRow tz to)
  have hp0 := e_al (heap_second w (entRow e.block e.kind e.version e.move e.zone e.offset) (placeRow fz fo)) (placeRow tz to)
  have hq0 : (((w.alloc (entRow e.block e.kind e.version e.move e.zone e.offset)).alloc (placeRow fz fo)).alloc (placeRow tz to)).heap[w.heap.size + 1 + 1]? = some (placeRow tz to) := by
    have := heap_alloc_new ((w.alloc (entRow e.block e.kind e.version e.move e.zone e.offset)).alloc (placeRow fz fo)) (placeRow tz to)
    simp only [World.size_alloc] at this
    exact this
  have hlw : ∀ W, Below w.heap.size w W → EList W F a len cap L := fun W h => hl.keep h
  have hFw : ∀ W, Below w.heap.size w W → ∀ b, F b → b < W.heap.size := fun W h b hb => Nat.lt_of_lt_of_le (hF b hb) h.size
  have f1 := Lib.hid fun W h => H.find F L block a len cap W (hlw W h) hm
  have f2 := Lib.hid fun W h => refFind_any F L block a len cap W (hlw W h)
  have v1 := Lib.hid fun W h => H.valid F L a len cap W (hlw W h) hm
  have v2 := Lib.hid fun W h => refValid_any F L a len cap W (hlw W h)
  have i1 := fun W h => H.install F L e a len cap W (hFw W h) (hlw W h) hm
  have i2 := fun W h => refInstall_any F L e a len cap W (hFw W h) (hlw W h) (Nat.le_trans hm (by decide))
  have r1 := Lib.hid fun W h => H.relocate F L block version fz fo tz to e.move a len cap W (hFw W h) (hlw W h) hm
  have r2 := Lib.hid fun W h => refRelocate_any F L block version fz fo tz to e.move a len cap W (hlw W h) (Nat.le_trans hm (by decide))
  have d1 := Lib.hid fun W h => H.drop F L cut a len cap W (hFw W h) (hlw W h) hm
  have d2 := Lib.hid fun W h => refDrop_any F L cut a len cap W (hlw W h) (Nat.le_trans hm (by decide))
  clear hlw hFw hl hF
  unfold findV at f1 f2
  unfold InstPost at i1 i2
  unfold RelPost at r1 r2
  unfold DropPost at d1 d2
  generalize (findE L block).getD zeroE = X at f1 f2
  generalize (findE L block).isSome = XB at f1 f2
  generalize validB L = VB at v1 v2
  generalize installL L e = IL at i1 i2
  generalize installE L e = IE at i1 i2
  generalize newer L e = IB at i1 i2
  obtain ⟨eb, ek, ev, em, ez, eo⟩ := e
  obtain ⟨xb, xk, xv, xm, xz, xo⟩ := X
  obtain ⟨yb, yk, yv, ym, yz, yo⟩ := IE
  try simp only at f1 f2 i1 i2 r1 r2 hA hx0 hp0 hq0
  have I1 := Lib.hid i1
  have I2 := Lib.hid i2
  clear i1 i2
  generalize relocL L block version fz fo tz to em = RL at r1 r2
  generalize moves L block version fz fo tz to em = RB at r1 r2
  generalize stayL L cut = SL at d1 d2
  generalize goneL L cut = GL at d1 d2
  go_enter Try.func8, Try.ntmps8
  generalize hw0 : ((w.alloc (entRow eb ek ev em ez eo)).alloc (placeRow fz fo)).alloc (placeRow tz to) = w0 at *
  have HX := Lib.hid fun W (h : Below w0.heap.size w0 W) => entry_row (e_on h hx0 (e_lt hx0))
  have HP := Lib.hid fun W (h : Below w0.heap.size w0 W) => place_row (e_on h hp0 (e_lt hp0))
  have HQ := Lib.hid fun W (h : Below w0.heap.size w0 W) => place_row (e_on h hq0 (e_lt hq0))
  clear hx0 hp0 hq0
  have c0 := Below.refl w0.heap.size w0
  have b0 := hA
  go_wp2_with (first
    | (go_at_call 20; ((with_reducible refine (f1.out _ b0).mono ?_); rintro r9 w1 ⟨rfl, h1⟩; have b1 := b0.trans (h1.mono b0.size); have c1 := c0.trans (h1.mono c0.size); have b1 := b1.alloc b1.size (entRow xb xk xv xm xz xo); have c1 := c1.alloc c1.size (entRow xb xk xv xm xz xo); have s1 := heap_alloc_new w1 (entRow xb xk xv xm xz xo)))
    | (go_at_call 14; ((with_reducible refine (f2.out _ b1).mono ?_); rintro r9 w2 ⟨rfl, h2⟩; have b2 := b1.trans (h2.mono b1.size); have c2 := c1.trans (h2.mono c1.size); have b2 := b2.alloc b2.size (entRow xb xk xv xm xz xo); have c2 := c2.alloc c2.size (entRow xb xk xv xm xz xo); have s2 := e_al (e_on h2 s1 (e_lt s1)) (entRow xb xk xv xm xz xo); have t2 := heap_alloc_new w2 (entRow xb xk xv xm xz xo); obtain ⟨x0, x1, x2, x3, x4, x5⟩ := entry_row s2; obtain ⟨y0, y1, y2, y3, y4, y5⟩ := entry_row t2))
    | (go_at_call 22; ((with_reducible refine (v1.out _ b2).mono ?_); rintro r9 w3 ⟨rfl, h3⟩; have b3 := b2.trans (h3.mono b2.size); have c3 := c2.trans (h3.mono c2.size); clear x0 x1 x2 x3 x4 x5 y0 y1 y2 y3 y4 y5))
    | (go_at_call 25; ((with_reducible refine (v2.out _ b3).mono ?_); rintro r9 w4 ⟨rfl, h4⟩; have b4 := b3.trans (h4.mono b3.size); have c4 := c3.trans (h4.mono c3.size); obtain ⟨e0, e1, e2, e3, e4, e5⟩ := HX.out _ c4))
    | (go_at_call 19; ((with_reducible refine (I1.out _ b4).mono ?_); rintro r9 w5 ⟨a5, n5, k5, rfl, l5, h5⟩; have b5 := b4.trans (h5.mono b4.size); have c5 := c4.trans (h5.mono c4.size); have b5 := b5.alloc b5.size (entRow yb yk yv ym yz yo); have c5 := c5.alloc c5.size (entRow yb yk yv ym yz yo); have l5 := l5.keep ((Below.refl w5.heap.size w5).alloc (Nat.le_refl _) (entRow yb yk yv ym yz yo)); have s5 := heap_alloc_new w5 (entRow yb yk yv ym yz yo); clear e0 e1 e2 e3 e4 e5; obtain ⟨e0, e1, e2, e3, e4, e5⟩ := HX.out _ c5))
    | (go_at_call 18; ((with_reducible refine (I2.out _ b5).mono ?_); rintro r9 w6 ⟨a6, n6, k6, rfl, l6, h6⟩; have b6 := b5.trans (h6.mono b5.size); have c6 := c5.trans (h6.mono c5.size); have b6 := b6.alloc b6.size (entRow yb yk yv ym yz yo); have c6 := c6.alloc c6.size (entRow yb yk yv ym yz yo); have l5 := (l5.keep h6).keep ((Below.refl w6.heap.size w6).alloc (Nat.le_refl _) (entRow yb yk yv ym yz yo)); have l6 := l6.keep ((Below.refl w6.heap.size w6).alloc (Nat.le_refl _) (entRow yb yk yv ym yz yo)); have s6 := e_al (e_on h6 s5 (e_lt s5)) (entRow yb yk yv ym yz yo); have t6 := heap_alloc_new w6 (entRow yb yk yv ym yz yo)))
    | (go_at_call 24; ((with_reducible refine (refSame_any _ _ IL a5 a6 n5 k5 k6 n6 _ l5 l6).mono ?_); rintro r9 w7 ⟨rfl, h7⟩; have b7 := b6.trans (h7.mono b6.size); have c7 := c6.trans (h7.mono c6.size); clear e0 e1 e2 e3 e4 e5; obtain ⟨e0, e1, e2, e3, e4, e5⟩ := HX.out _ c7; obtain ⟨p0, p1⟩ := HP.out _ c7; obtain ⟨q0, q1⟩ := HQ.out _ c7; obtain ⟨x0, x1, x2, x3, x4, x5⟩ := entry_row (e_on h7 s6 (e_lt s6)); obtain ⟨y0, y1, y2, y3, y4, y5⟩ := entry_row (e_on h7 t6 (e_lt t6)); clear l5 l6))
    | (go_at_call 21; ((with_reducible refine (r1.out _ b7).mono ?_); rintro r9 w8 ⟨a8, n8, k8, rfl, l8, h8⟩; clear x0 x1 x2 x3 x4 x5 y0 y1 y2 y3 y4 y5; have b8 := b7.trans (h8.mono b7.size); have c8 := c7.trans (h8.mono c7.size); clear e0 e1 e2 e3 e4 e5; obtain ⟨e0, e1, e2, e3, e4, e5⟩ := HX.out _ c8; clear p0 p1 q0 q1; obtain ⟨p0, p1⟩ := HP.out _ c8; obtain ⟨q0, q1⟩ := HQ.out _ c8))
    | (go_at_call 16; ((with_reducible refine (r2.out _ b8).mono ?_); rintro r9 w9 ⟨a9, n9, k9, rfl, l9, h9⟩; have b9 := b8.trans (h9.mono b8.size); have c9 := c8.trans (h9.mono c8.size); have l8 := l8.keep h9; clear e0 e1 e2 e3 e4 e5 p0 p1 q0 q1))
    | (go_at_call 24; ((with_reducible refine (refSame_any _ _ RL a8 a9 n8 k8 k9 n9 _ l8 l9).mono ?_); rintro r9 w10 ⟨rfl, h10⟩; have b10 := b9.trans (h10.mono b9.size); have c10 := c9.trans (h10.mono c9.size); clear l8 l9))
    | (go_at_call 23; ((with_reducible refine (d1.out _ b10).mono ?_); rintro r9 w11 ⟨a11, n11, k11, d11, m11, j11, rfl, l11, g11, h11⟩; have b11 := b10.trans (h11.mono b10.size); have c11 := c10.trans (h11.mono c10.size)))
    | (go_at_call 17; ((with_reducible refine (d2.out _ b11).mono ?_); rintro r9 w12 ⟨a12, n12, k12, d12, m12, j12, rfl, l12, g12, h12⟩; have b12 := b11.trans (h12.mono b11.size); have c12 := c11.trans (h12.mono c11.size); have l11 := l11.keep h12; have g11 := g11.keep h12))
    | (go_at_call 24; ((with_reducible refine (refSame_any _ _ SL a11 a12 n11 k11 k12 n12 _ l11 l12).mono ?_); rintro r9 w13 ⟨rfl, h13⟩; have b13 := b12.trans (h13.mono b12.size); have c13 := c12.trans (h13.mono c12.size); have g11 := g11.keep h13; have g12 := g12.keep h13; clear l11 l12))
    | (go_at_call 24; ((with_reducible refine (refSame_any _ _ GL d11 d12 m11 j11 j12 m12 _ g11 g12).mono ?_); rintro r9 w14 ⟨rfl, h14⟩; have b14 := b13.trans (h14.mono b13.size); have c14 := c13.trans (h14.mono c13.size))))
  go_ret
  exact ⟨rfl, b14⟩
end Go.Proofs.Ytbaclgedohpibaa.Ents
