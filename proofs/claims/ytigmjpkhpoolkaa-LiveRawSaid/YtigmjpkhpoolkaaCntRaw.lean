
/- The walks of the law's awake and of LiveRaw, under the program's contracts. -/
import Derived.Test.YtigmjpkhpoolkaaCntAgree
namespace Go.Proofs.Ytigmjpkhpoolkaa.Ents
open Go.RowKit Plan EntMath CntMath
abbrev six0 : Cnt := ⟨[0, 0, 0, 0, 0, 0], [0, 0, 0, 0, 0, 0]⟩
abbrev six2 : Cnt := ⟨[0, 0, 1, 0, 0, 0], [0, 0, 0, 0, 0, 0]⟩
abbrev six5 : Cnt := ⟨[0, 0, 0, 0, 0, 1], [0, 0, 0, 0, 0, 0]⟩
theorem aw_cnew : newC 6 = six0 ∧ newCE 6 = 0 := by decide
theorem aw_chg1 : changeC six0 0 2 false true = six2 ∧ changeB six0 0 2 false true = true := by decide
theorem aw_chg2 : changeC six2 2 5 true true = six5 ∧ changeB six2 2 5 true true = true := by decide
theorem aw_chg3 : changeC six5 2 5 true true = six5 ∧ changeB six5 2 5 true true = false := by decide
set_option maxHeartbeats 4000000 in
set_option maxRecDepth 20000 in
theorem cntAwake_any (H : LiveOk) (w : World) : Calls Try.prog 7 #[] w fun r w' => r = .returned (.bool true) ∧ Below w.heap.size w w' := by
  have n1 := fun W => H.new 6 W
  have g1 := fun W (F : Nat → Prop) a a2 n c n2 c2 (h : ∀ b, F b → b < W.heap.size) (l : CList W F a n c a2 n2 c2 six0) => H.chg F six0 ⟨0, 0, 0, 0, 0, 0⟩ ⟨0, 0, 0, 0, 2, 0⟩ false true a a2 n c n2 c2 W h l (by have := l.l.length; simp at this; omega) (by have := l.p.length; simp at this; omega)
  have g2 := fun W (F : Nat → Prop) a a2 n c n2 c2 (h : ∀ b, F b → b < W.heap.size) (l : CList W F a n c a2 n2 c2 six2) => H.chg F six2 ⟨0, 0, 0, 0, 2, 0⟩ ⟨0, 0, 0, 0, 5, 0⟩ true true a a2 n c n2 c2 W h l (by have := l.l.length; simp at this; omega) (by have := l.p.length; simp at this; omega)
  have g3 := fun W (F : Nat → Prop) a a2 n c n2 c2 (h : ∀ b, F b → b < W.heap.size) (l : CList W F a n c a2 n2 c2 six5) => H.chg F six5 ⟨0, 0, 0, 0, 2, 0⟩ ⟨0, 0, 0, 0, 5, 0⟩ true true a a2 n c n2 c2 W h l (by have := l.l.length; simp at this; omega) (by have := l.p.length; simp at this; omega)
  unfold CNewPost at n1
  unfold CntPost at g1 g2 g3
  simp only [aw_cnew, aw_chg1, aw_chg2, aw_chg3] at n1 g1 g2 g3
  have N1 := Lib.hid n1
  have G1 := Lib.hid g1
  have G2 := Lib.hid g2
  have G3 := Lib.hid g3
  clear n1 g1 g2 g3
  go_enter Try.func7, Try.ntmps7
  go_wp2_with (first
    | (go_at_call 10; ((with_reducible refine (N1.out _).mono ?_); rintro r9 w5 ⟨xa, xn, xc, xa2, xn2, xc2, rfl, lx, hb⟩; obtain rfl : xn = 6 := lx.l.length.symm; obtain rfl : xn2 = 6 := lx.p.length.symm; clear N1; have lx := (((lx.mono (G := fun b => b < w5.heap.size) (fun b h _ => h)).on (Same.alloc w5 (cntRow xa 6 xc xa2 6 xc2))).on (Same.alloc (w5.alloc (cntRow xa 6 xc xa2 6 xc2)) (entRow 0 0 0 0 2 0))).on (Same.alloc ((w5.alloc (cntRow xa 6 xc xa2 6 xc2)).alloc (entRow 0 0 0 0 2 0)) (entRow 0 0 0 0 5 0)); obtain ⟨hX, ha, hq⟩ := heap3 w5 (cntRow xa 6 xc xa2 6 xc2) (entRow 0 0 0 0 2 0) (entRow 0 0 0 0 5 0); have kX := hb.size; have hb := hb.alloc hb.size (cntRow xa 6 xc xa2 6 xc2); have hb := hb.alloc hb.size (entRow 0 0 0 0 2 0); have hb := hb.alloc hb.size (entRow 0 0 0 0 5 0)))
    | (go_at_call 14; ((with_reducible refine (G1.out _ _ _ _ _ _ _ _ (fun b h => by simp only [World.size_alloc]; omega) lx).mono ?_); rintro r9 w6 ⟨xa, xn, xc, xa2, xn2, xc2, rfl, lx, h9⟩; obtain rfl : xn = 6 := lx.l.length.symm; obtain rfl : xn2 = 6 := lx.p.length.symm; clear G1; have lx := lx.mono (G := fun b => b ≠ w5.heap.size) (fun b _ h => by rcases h with h | h; (· omega); (· simp only [World.size_alloc] at h; omega)); have hb := hb.trans (h9.mono hb.size); have hX := e_on h9 hX (e_lt hX); have ha := e_on h9 ha (e_lt ha); have hq := e_on h9 hq (e_lt hq)))
    | (go_at_call 14; ((with_reducible refine (G2.out _ _ _ _ _ _ _ _ (fun b h => h.2) lx.cut).mono ?_); rintro r9 w6 ⟨xa, xn, xc, xa2, xn2, xc2, rfl, lx, h9⟩; obtain rfl : xn = 6 := lx.l.length.symm; obtain rfl : xn2 = 6 := lx.p.length.symm; clear G2; have lx := lx.mono (G := fun b => b ≠ w5.heap.size) (fun b _ h => by have h8 := e_lt hX; rcases h with h | h; (· exact h.1); (· omega)); have hb := hb.trans (h9.mono hb.size); have hX := e_on h9 hX (e_lt hX); have ha := e_on h9 ha (e_lt ha); have hq := e_on h9 hq (e_lt hq)))
    | (go_at_call 14; ((with_reducible refine (G3.out _ _ _ _ _ _ _ _ (fun b h => h.2) lx.cut).mono ?_); rintro r9 w6 ⟨ya, yn, yc, ya2, yn2, yc2, rfl, _, h9⟩; clear G3; have lx := (lx.on (Same.below h9)).on (Same.alloc w6 (cntRow ya yn yc ya2 yn2 yc2)); have hb := hb.trans (h9.mono hb.size); have hb := hb.alloc hb.size (cntRow ya yn yc ya2 yn2 yc2); have hX := e_al (e_on h9 hX (e_lt hX)) (cntRow ya yn yc ya2 yn2 yc2); obtain ⟨x0, x1⟩ := two_row hX; obtain ⟨x, z, rfl, hz, hc2⟩ := lx.l.at' 2 (by decide); obtain rfl := Option.some.inj hz; obtain ⟨x', z', hxx, hz', hc5⟩ := lx.l.at' 5 (by decide); obtain rfl := Option.some.inj hz'; obtain rfl := Option.some.inj hxx; have hc2' : (w6.alloc (cntRow ya yn yc ya2 yn2 yc2)).cell? ⟨x.block, x.off + 2, none⟩ = some (.int .i64 0) := (by rw [← Addr.add_succ' x 1]; exact hc2); have hc5' : (w6.alloc (cntRow ya yn yc ya2 yn2 yc2)).cell? ⟨x.block, x.off + 5, none⟩ = some (.int .i64 1) := (by rw [← Addr.add_succ' x 4]; exact hc5)))
    | ((with_reducible refine Plan.store_lit 24 (.tmp 1) _ w5.heap.size ?_ hX ?_ ?_ ?_ ?_ ?_ ?_); rotate_left; (· rfl); (· rfl); (· exact cnt_info); (· rfl); (· simp [Value.oneCell']); simp only [Act.put]; have ha := (setRow_other w6 w5.heap.size (w5.heap.size + 1) #[.slice xa 6 xc, .slice xa2 6 xc2] (by omega)).trans ha; have hq := (setRow_other w6 w5.heap.size (w5.heap.size + 2) #[.slice xa 6 xc, .slice xa2 6 xc2] (by omega)).trans hq; have hX := setRow_heap w6 w5.heap.size _ #[.slice xa 6 xc, .slice xa2 6 xc2] _ _ hX; have hb := below_setRow hb kX #[.slice xa 6 xc, .slice xa2 6 xc2]; have lx := lx.on (Same.row (r := w5.heap.size) (fun h => h rfl) #[.slice xa 6 xc, .slice xa2 6 xc2]); generalize w6.setRow w5.heap.size #[.slice xa 6 xc, .slice xa2 6 xc2] = w6 at *)
    | ((with_reducible refine Plan.load_lit 24 (.tmp 1) w5.heap.size ?_ hX Try.underlying24 ?_ ?_ ?_); (· rfl); (· rfl); (· exact cnt_info); simp only [Act.put, List.setIfInBounds_toArray, List.set_cons_zero, List.set_cons_succ])
    | ((with_reducible refine Plan.load_lit 28 (.tmp 3) (w5.heap.size + 1) ?_ ha Try.underlying28 ?_ ?_ ?_); (· rfl); (· rfl); (· exact entry_info); simp only [Act.put, List.setIfInBounds_toArray, List.set_cons_zero, List.set_cons_succ])
    | ((with_reducible refine Plan.load_lit 28 (.tmp 4) (w5.heap.size + 1 + 1) ?_ hq Try.underlying28 ?_ ?_ ?_); (· rfl); (· rfl); (· exact entry_info); simp only [Act.put, List.setIfInBounds_toArray, List.set_cons_zero, List.set_cons_succ]))
  go_ret
  exact ⟨rfl, hb⟩
set_option maxHeartbeats 4000000 in
set_option maxRecDepth 20000 in
theorem cntRaw_any (H : LiveOk) (F G : Nat → Prop) (C : Cnt) (z : Int) (o f : Ent) (had is : Bool) (L : List Ent) (a a2 e : Option Addr) (n c n2 c2 m d : Nat) (w : World) (hl : CList w F a n c a2 n2 c2 C) (hk : EList w G e m d L) (hs : n + n2 + m ≤ 4611686018427387904) :
    Calls Try.prog 3 #[cntV a n c a2 n2 c2, .int .i64 z, entV o, entV f, .bool had, .bool is, .slice e m d] w fun r w' => r = .returned (.bool true) ∧ Below w.heap.size w w' := by
  have hb : Below w.heap.size w (((w.alloc (cntRow a n c a2 n2 c2)).alloc (entRow o.block o.kind o.version o.move o.zone o.offset)).alloc (entRow f.block f.kind f.version f.move f.zone f.offset)) := (((Below.refl w.heap.size w).alloc (Nat.le_refl _) _).alloc (by simp) _).alloc (by simp; omega) _
  obtain ⟨hx, ho, hf⟩ := heap3 w (cntRow a n c a2 n2 c2) (entRow o.block o.kind o.version o.move o.zone o.offset) (entRow f.block f.kind f.version f.move f.zone f.offset)
  have HW := Lib.hid (fun W => cntAwake_any H W)
  by_cases hm : n + n2 + m ≤ 300
  · have HG := Lib.hid (fun W (h : Below w.heap.size w W) => cntAgree_any H _ _ C z o f had is L a a2 e n c n2 c2 m d W (hl.same h) (hk.on (Same.below h)) (by omega) (by omega) (by omega))
    have d1 : decide ((300 : Int) < (n : Int) + (n2 : Int) + (m : Int)) = false := by simp; omega
    have d2 : decide (300 < n + n2 + m) = false := by simp; omega
    have d3 : ¬ (300 : Int) < (n : Int) + (n2 : Int) + (m : Int) := by omega
    clear hl hk
    obtain ⟨ob, ok, ov, om, oz, oo⟩ := o
    obtain ⟨fb, fk, fv, fm, fz, fo⟩ := f
    try simp only at HG hb ho hf hx
    go_enter Try.func3, Try.ntmps3
    generalize hw0 : ((w.alloc (cntRow a n c a2 n2 c2)).alloc (entRow ob ok ov om oz oo)).alloc (entRow fb fk fv fm fz fo) = w0 at *
    obtain ⟨x0, x1⟩ := two_row hx
    go_wp2_with (first
      | ((with_reducible refine load_lit_gc 24 (.tmp 7) w.heap.size ?_ ?_ hx Try.underlying24 ?_ ?_ ?_); (· rfl); (· rfl); (· rfl); (· exact cnt_info); simp only [Act.put, List.setIfInBounds_toArray, List.set_cons_zero, List.set_cons_succ])
      | ((with_reducible refine load_lit_gc 28 (.tmp 9) (w.heap.size + 1) ?_ ?_ ho Try.underlying28 ?_ ?_ ?_); (· rfl); (· rfl); (· rfl); (· exact entry_info); simp only [Act.put, List.setIfInBounds_toArray, List.set_cons_zero, List.set_cons_succ])
      | ((with_reducible refine load_lit_gc 28 (.tmp 10) (w.heap.size + 1 + 1) ?_ ?_ hf Try.underlying28 ?_ ?_ ?_); (· rfl); (· rfl); (· rfl); (· exact entry_info); simp only [Act.put, List.setIfInBounds_toArray, List.set_cons_zero, List.set_cons_succ])
      | (go_at_call 6; ((with_reducible refine (HG.out _ hb).mono ?_); rintro r9 w5 ⟨rfl, h9⟩; have hb := hb.trans (h9.mono hb.size)))
      | (go_at_call 7; ((with_reducible refine (HW.out _).mono ?_); rintro r9 w6 ⟨rfl, h9⟩; have hb := hb.trans (h9.mono hb.size))))
    go_ret
    exact ⟨rfl, hb⟩
  · have d1 : decide ((300 : Int) < (n : Int) + (n2 : Int) + (m : Int)) = true := by simp; omega
    have d2 : decide (300 < n + n2 + m) = true := by simp; omega
    have d3 : (300 : Int) < (n : Int) + (n2 : Int) + (m : Int) := by omega
    clear hl hk
    obtain ⟨ob, ok, ov, om, oz, oo⟩ := o
    obtain ⟨fb, fk, fv, fm, fz, fo⟩ := f
    try simp only at hb ho hf hx
    go_enter Try.func3, Try.ntmps3
    generalize hw0 : ((w.alloc (cntRow a n c a2 n2 c2)).alloc (entRow ob ok ov om oz oo)).alloc (entRow fb fk fv fm fz fo) = w0 at *
    obtain ⟨x0, x1⟩ := two_row hx
    go_wp2_with (first
      | (go_at_call 7; ((with_reducible refine (HW.out _).mono ?_); rintro r9 w6 ⟨rfl, h9⟩; have hb := hb.trans (h9.mono hb.size))))
    go_ret
    exact ⟨rfl, hb⟩
end Go.Proofs.Ytigmjpkhpoolkaa.Ents
