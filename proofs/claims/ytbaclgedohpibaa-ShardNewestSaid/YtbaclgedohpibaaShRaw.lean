
/- The walks of the law's awake and of ShardRaw, under the program's contracts. -/
import Derived.Test.YtbaclgedohpibaaShAgree
namespace Go.Proofs.Ytbaclgedohpibaa.Ents
open Go.RowKit Plan EntMath
def e3 : Ent := ⟨1, 1, 3, 0, 0, 0⟩
def e2 : Ent := ⟨1, 1, 2, 0, 0, 0⟩
theorem aw_first : installL [] e3 = [e3] ∧ installE [] e3 = zeroE ∧ newer [] e3 = true := by decide
theorem aw_second : installL [e3] e2 = [e3] ∧ installE [e3] e2 = e3 ∧ newer [e3] e2 = false := by decide
theorem aw_find : findE [e3] 1 = some e3 := by decide
theorem aw_valid : validB [e3] = true := by decide
set_option maxHeartbeats 2000000 in
set_option maxRecDepth 20000 in
theorem shAwake_any (H : ShardOk) (w : World) : Calls Try.prog 9 #[] w fun r w' => r = .returned (.bool true) ∧ Below w.heap.size w w' := by
  have i1 := fun W (F : Nat → Prop) (h : ∀ b, F b → b < W.heap.size) => H.install F [] e3 none 0 0 W h (EList.nil _ _) (by decide)
  have i2 := fun W (F : Nat → Prop) a n c (h : ∀ b, F b → b < W.heap.size) (l : EList W F a n c [e3]) => H.install F [e3] e2 a n c W h l (by rw [← l.length]; decide)
  have f1 := fun W (F : Nat → Prop) a n c (l : EList W F a n c [e3]) => H.find F [e3] 1 a n c W l (by rw [← l.length]; decide)
  have v1 := fun W (F : Nat → Prop) a n c (l : EList W F a n c [e3]) => H.valid F [e3] a n c W l (by rw [← l.length]; decide)
  simp only [aw_first, aw_second, findV_some aw_find, aw_valid] at i1 i2 f1 v1
  unfold InstPost at i1 i2
  unfold e3 zeroE at i1
  unfold e3 e2 at i2
  unfold e3 at f1 v1
  try simp only at i1 i2 f1 v1
  have I1 := Lib.hid i1
  have I2 := Lib.hid i2
  have F1 := Lib.hid f1
  have V1 := Lib.hid v1
  clear i1 i2 f1 v1
  have hA := ((Below.refl w.heap.size w).alloc (Nat.le_refl _) (entRow 1 1 3 0 0 0)).alloc (by simp) (entRow 1 1 2 0 0 0)
  have hx0 := heap_first w (entRow 1 1 3 0 0 0) (entRow 1 1 2 0 0 0)
  have hy0 := heap_second w (entRow 1 1 3 0 0 0) (entRow 1 1 2 0 0 0)
  go_enter Try.func9, Try.ntmps9
  go_wp2_with (first
    | (go_at_call 19; ((with_reducible refine (I1.out _ (fun _ => False) (fun _ h => h.elim)).mono ?_); rintro r9 w1 ⟨a1, n1, k1, rfl, l1, h1⟩; have b1 := (hA.trans (h1.mono hA.size)).alloc (hA.trans (h1.mono hA.size)).size (entRow 0 0 0 0 0 0); have l1 := l1.low.keep ((Below.refl w1.heap.size w1).alloc (Nat.le_refl _) (entRow 0 0 0 0 0 0)); have x1 := e_al (e_on h1 hx0 (e_lt hx0)) (entRow 0 0 0 0 0 0); have y1 := e_al (e_on h1 hy0 (e_lt hy0)) (entRow 0 0 0 0 0 0); obtain ⟨d0, d1, d2, d3, d4, d5⟩ := entry_row y1))
    | (go_at_call 19; ((with_reducible refine (I2.out _ _ a1 n1 k1 (fun _ h => by simp only [World.size_alloc] at *; omega) l1).mono ?_); rintro r9 w2 ⟨a2, n2, k2, rfl, l2, h2⟩; have b2 := (b1.trans (h2.mono b1.size)).alloc (b1.trans (h2.mono b1.size)).size (entRow 1 1 3 0 0 0); have l2 := l2.low.keep ((Below.refl w2.heap.size w2).alloc (Nat.le_refl _) (entRow 1 1 3 0 0 0)); have x2 := e_al (e_on h2 x1 (e_lt x1)) (entRow 1 1 3 0 0 0); have z2 := heap_alloc_new w2 (entRow 1 1 3 0 0 0); clear d0 d1 d2 d3 d4 d5))
    | (go_at_call 20; ((with_reducible refine (F1.out _ _ a2 n2 k2 l2).mono ?_); rintro r9 w3 ⟨rfl, h3⟩; have b3 := (b2.trans (h3.mono b2.size)).alloc (b2.trans (h3.mono b2.size)).size (entRow 1 1 3 0 0 0); have l3 := (l2.keep h3).keep ((Below.refl w3.heap.size w3).alloc (Nat.le_refl _) (entRow 1 1 3 0 0 0)); have x3 := e_al (e_on h3 x2 (e_lt x2)) (entRow 1 1 3 0 0 0); have z3 := e_al (e_on h3 z2 (e_lt z2)) (entRow 1 1 3 0 0 0); obtain ⟨d0, d1, d2, d3, d4, d5⟩ := entry_row x3; obtain ⟨c0, c1, c2, c3, c4, c5⟩ := entry_row z3))
    | (go_at_call 22; ((with_reducible refine (V1.out _ _ a2 n2 k2 l3).mono ?_); rintro r9 w4 ⟨rfl, h4⟩; have b4 := b3.trans (h4.mono b3.size))))
  go_ret
  exact ⟨rfl, b4⟩
set_option maxHeartbeats 2000000 in
set_option maxRecDepth 20000 in
theorem shRaw_any (H : ShardOk) (F : Nat → Prop) (L : List Ent) (e : Ent) (block version cut fz fo tz to : Int) (a : Option Addr) (len cap : Nat) (w : World) (hF : ∀ b, F b → b < w.heap.size) (hl : EList w F a len cap L) :
    Calls Try.prog 3 #[.slice a len cap, entV e, .int .i64 block, .int .i64 version, .int .i64 cut, .agg #[.int .i64 fz, .int .i64 fo], .agg #[.int .i64 tz, .int .i64 to]] w fun r w' => r = .returned (.bool true) ∧ Below w.heap.size w w' := by
  have hA := (((Below.refl w.heap.size w).alloc (Nat.le_refl _) (entRow e.block e.kind e.version e.move e.zone e.offset)).alloc (by simp) (placeRow fz fo)).alloc (by simp; omega) (placeRow tz to)
  have hx0 := e_al (heap_first w (entRow e.block e.kind e.version e.move e.zone e.offset) (placeRow fz fo)) (placeRow tz to)
  have hp0 := e_al (heap_second w (entRow e.block e.kind e.version e.move e.zone e.offset) (placeRow fz fo)) (placeRow tz to)
  have hq0 : (((w.alloc (entRow e.block e.kind e.version e.move e.zone e.offset)).alloc (placeRow fz fo)).alloc (placeRow tz to)).heap[w.heap.size + 1 + 1]? = some (placeRow tz to) := by
    have := heap_alloc_new ((w.alloc (entRow e.block e.kind e.version e.move e.zone e.offset)).alloc (placeRow fz fo)) (placeRow tz to)
    simp only [World.size_alloc] at this
    exact this
  have hw := fun W => shAwake_any H W
  have HW := Lib.hid hw
  clear hw
  by_cases hm : len ≤ 200
  · have hg := fun W (h : Below w.heap.size w W) => shAgree_any H F L e block version cut fz fo tz to a len cap W (fun b hb => Nat.lt_of_lt_of_le (hF b hb) h.size) (hl.keep h) (Nat.le_trans hm (by decide))
    have HG := Lib.hid hg
    clear hg hl hF
    obtain ⟨eb, ek, ev, em, ez, eo⟩ := e
    try simp only at HG hA hx0 hp0 hq0
    have hI : ¬ (200 : Int) < (len : Int) := by omega
    go_enter Try.func3, Try.ntmps3
    generalize hw0 : ((w.alloc (entRow eb ek ev em ez eo)).alloc (placeRow fz fo)).alloc (placeRow tz to) = w0 at *
    obtain ⟨e0, e1, e2, e3, e4, e5⟩ := entry_row hx0
    obtain ⟨p0, p1⟩ := place_row hp0
    obtain ⟨q0, q1⟩ := place_row hq0
    go_wp2_with (first
      | (go_at_call 8; ((with_reducible refine (HG.out _ hA).mono ?_); rintro r9 w1 ⟨rfl, h1⟩; have b1 := hA.trans (h1.mono hA.size)))
      | (go_at_call 9; ((with_reducible refine (HW.out _).mono ?_); rintro r9 w2 ⟨rfl, h2⟩; have b2 := b1.trans (h2.mono b1.size))))
    go_ret
    exact ⟨rfl, b2⟩
  · clear hl hF
    obtain ⟨eb, ek, ev, em, ez, eo⟩ := e
    try simp only at hA
    have hI : (200 : Int) < (len : Int) := by omega
    go_enter Try.func3, Try.ntmps3
    generalize hw0 : ((w.alloc (entRow eb ek ev em ez eo)).alloc (placeRow fz fo)).alloc (placeRow tz to) = w0 at *
    go_wp2_with (first
      | (go_at_call 9; ((with_reducible refine (HW.out _).mono ?_); rintro r9 w2 ⟨rfl, h2⟩; have b2 := hA.trans (h2.mono hA.size))))
    go_ret
    exact ⟨rfl, b2⟩
end Go.Proofs.Ytbaclgedohpibaa.Ents
