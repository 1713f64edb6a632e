/- Texts that belong together, part 21. -/
import Derived.Test.YtjdlekjikemdpaaPack20

/- What the program's pools are to do, in the words of the contracts of the document's own; the walks of the document's Same and of the law's agree under it. -/
namespace Go.Proofs.Ytjdlekjikemdpaa.Ents
open Go.RowKit Plan EntMath CntMath PoolMath LayMath
set_option maxHeartbeats 4000000 in
set_option maxRecDepth 20000 in
theorem refPSame_any (F G : Nat → Prop) (P : Po) (a b : Option Addr) (n c m d : Nat) (h k h' k' : Int) (w : World) (hl : FList w F a n c h k P) (hk : FList w G b m d h' k' P) :
    Calls Try.prog 23 #[poV a n c h k, poV b m d h' k'] w fun r w' => r = .returned (.bool true) ∧ Below w.heap.size w w' := by
  obtain ⟨e1, e2, hl⟩ := hl
  obtain ⟨e3, e4, hk⟩ := hk
  obtain rfl : h = h' := e1.symm.trans e3
  obtain rfl : k = k' := e2.symm.trans e4
  have hlen := hl.length
  obtain rfl : n = m := hlen.symm.trans hk.length
  have hcp := hl.cap
  unfold maxLen at hcp
  have H1 := Lib.hid (fun W (h : Below w.heap.size w W) i (hi : i < n) => (hl.same h).at' i hi)
  have H2 := Lib.hid (fun W (h : Below w.heap.size w W) i (hi : i < n) => (hk.same h).at' i hi)
  have hA := ((Below.refl w.heap.size w).alloc (Nat.le_refl _) (poRow a n c h k)).alloc (by simp) (poRow b n d h k)
  have hx0 := heap_first w (poRow a n c h k) (poRow b n d h k)
  have hy0 := heap_second w (poRow a n c h k) (poRow b n d h k)
  clear hl hk e1 e2 e3 e4
  go_enter Try.func23, Try.ntmps23
  obtain ⟨x0, x1, x2⟩ := three_row hx0
  obtain ⟨y0, y1, y2⟩ := three_row hy0
  generalize hw0 : (w.alloc (poRow a n c h k)).alloc (poRow b n d h k) = w0 at *
  go_wp2_with fail
  go_loopw [5] (fun x wr => ∃ j : Nat, x = .int .i64 (j : Int) ∧ j ≤ n ∧ wr.heap[w.heap.size]? = some (poRow a n c h k) ∧ wr.heap[w.heap.size + 1]? = some (poRow b n d h k) ∧ Below w.heap.size w wr) (fun x _ => n - (intOf x).toNat)
  case atStart => exact ⟨0, rfl, by omega, hx0, hy0, hA⟩
  case round =>
    clear x0 x1 x2 y0 y1 y2 hx0 hy0 hA
    obtain ⟨j, rfl, hj, hx, hy, hb⟩ := hrel
    obtain ⟨x0, x1, x2⟩ := three_row hx
    obtain ⟨y0, y1, y2⟩ := three_row hy
    by_cases hlt : j < n
    · obtain ⟨x, z, rfl, hz, hc⟩ := H1.out wr hb j hlt
      obtain ⟨y, z', rfl, hz', hc'⟩ := H2.out wr hb j hlt
      rw [hz] at hz'
      obtain rfl := Option.some.inj hz'
      have hjI : (j : Int) < (n : Int) := by omega
      clear hz
      go_wp2_with fail
      refine Plan.start (fun W => W.cell? ⟨w.heap.size, 0, none⟩ = some (.slice (some x) n c) ∧ W.cell? ⟨w.heap.size + 1, 0, none⟩ = some (.slice (some y) n d) ∧ W.cell? (x.add j) = some (.int .i64 z) ∧ W.cell? (y.add j) = some (.int .i64 z)) [(0, true), (1, true), (2, true), (3, true), (4, true), (5, true), (6, true), (7, true), (8, true), (9, true), (10, true)] (by kernel_rfl) (by kernel_rfl) (by kernel_rfl) (by kernel_rfl) ⟨x0, y0, hc, hc'⟩ ?_
      simp only [List.map_cons, List.map_nil, List.getElem?_toArray, List.getElem?_cons_zero, List.getElem?_cons_succ]
      repeat (first | (refine Plan.take ?_ (by rfl) ?_ ?_; rotate_left; (· rintro w9 ⟨u0, u1, u2, u3⟩; go_simp; (try rw [if_neg (by omega)]); all_goals (with_reducible rfl)); simp only [Act.put, List.setIfInBounds_toArray, List.set_cons_zero, List.set_cons_succ]) | (refine Plan.pass (by rfl) ?_; simp only [Act.put, List.setIfInBounds_toArray, List.set_cons_zero, List.set_cons_succ]))
      refine Plan.ends ?_
      have hb2 := hb.drew
      have hx2 : wr.drew.heap[w.heap.size]? = _ := hx
      have hy2 : wr.drew.heap[w.heap.size + 1]? = _ := hy
      go_wp2_with fail
      go_roundw
      case rel => exact ⟨j + 1, by go_num, by omega, hx2, hy2, hb2⟩
      case measure => simp [intOf]; omega
    · obtain rfl : j = n := by omega
      have hjI : ¬ (j : Int) < (j : Int) := by omega
      go_wp2_with fail
      go_ret
      exact ⟨rfl, hb⟩
theorem six_row {w : World} {g : Nat} {a b c d e f : Value} {t : TypeId} {fr : Nat × Nat} (h : w.heap[g]? = some (.cells #[a, b, c, d, e, f] t fr)) : w.cell? ⟨g, 0, none⟩ = some a ∧ w.cell? ⟨g, 1, none⟩ = some b ∧ w.cell? ⟨g, 2, none⟩ = some c ∧ w.cell? ⟨g, 3, none⟩ = some d ∧ w.cell? ⟨g, 4, none⟩ = some e ∧ w.cell? ⟨g, 5, none⟩ = some f := ⟨cell_of_row _ _ 0 _ _ _ h, cell_of_row _ _ 1 _ _ _ h, cell_of_row _ _ 2 _ _ _ h, cell_of_row _ _ 3 _ _ _ h, cell_of_row _ _ 4 _ _ _ h, cell_of_row _ _ 5 _ _ _ h⟩
structure PoolOk : Prop where
  valid : ∀ (F : Nat → Prop) (P : Po) (cz cs cb cq cd ch : Int) (a : Option Addr) (n c : Nat) (h k : Int) (w : World), (∀ b, F b → b < w.heap.size) → FList w F a n c h k P → n ≤ 1000 →
    Calls Try.prog 22 #[poV a n c h k, confV cz cs cb cq cd ch] w fun r w' => r = .returned (.bool (validP (decide (errN cz cs cb cq cd ch = 0)) (isN cz cs cb cq cd ch) P)) ∧ Below w.heap.size w w'
  put : ∀ (F : Nat → Prop) (P : Po) (cz cs cb cq cd ch : Int) (s : Int) (a : Option Addr) (n c : Nat) (h k : Int) (w : World), (∀ b, F b → b < w.heap.size) → FList w F a n c h k P → n ≤ 1000 →
    Calls Try.prog 18 #[poV a n c h k, confV cz cs cb cq cd ch, .int .i64 s] w (PoPost w F (putP (decide (errN cz cs cb cq cd ch = 0)) (isN cz cs cb cq cd ch) P s) (putB (decide (errN cz cs cb cq cd ch = 0)) (isN cz cs cb cq cd ch) P s))
  host : ∀ (F : Nat → Prop) (P : Po) (cz cs cb cq cd ch : Int) (a : Option Addr) (n c : Nat) (h k : Int) (w : World), (∀ b, F b → b < w.heap.size) → FList w F a n c h k P → n ≤ 1000 →
    Calls Try.prog 19 #[poV a n c h k, confV cz cs cb cq cd ch] w (PoPost w F (hostP (decide (errN cz cs cb cq cd ch = 0)) (isN cz cs cb cq cd ch) P) (hostB (decide (errN cz cs cb cq cd ch = 0)) (isN cz cs cb cq cd ch) P))
  clean : ∀ (F : Nat → Prop) (P : Po) (cz cs cb cq cd ch : Int) (a : Option Addr) (n c : Nat) (h k : Int) (w : World), (∀ b, F b → b < w.heap.size) → FList w F a n c h k P → n ≤ 1000 →
    Calls Try.prog 20 #[poV a n c h k, confV cz cs cb cq cd ch] w (PoPost w F (cleanP (decide (errN cz cs cb cq cd ch = 0)) (isN cz cs cb cq cd ch) P) (cleanB (decide (errN cz cs cb cq cd ch = 0)) (isN cz cs cb cq cd ch) P))
  leave : ∀ (F : Nat → Prop) (P : Po) (cz cs cb cq cd ch : Int) (s : Bool) (a : Option Addr) (n c : Nat) (h k : Int) (w : World), (∀ b, F b → b < w.heap.size) → FList w F a n c h k P → n ≤ 1000 →
    Calls Try.prog 21 #[poV a n c h k, confV cz cs cb cq cd ch, .bool s] w (PoPost w F (leaveP (decide (errN cz cs cb cq cd ch = 0)) (isN cz cs cb cq cd ch) P s) (leaveB (decide (errN cz cs cb cq cd ch = 0)) (isN cz cs cb cq cd ch) P s))
/-- where the law's agree stands: two boxes of its own, and two boxes of answers -/
structure PAg (w W : World) (XR XC XO YO : Obj) (X Y : Nat) : Prop where
  hx : W.heap[w.heap.size]? = some XR
  hc : W.heap[w.heap.size + 1]? = some XC
  hX : W.heap[X]? = some XO
  hY : W.heap[Y]? = some YO
  hb : Below w.heap.size w W
  hh : w.heap.size + 1 < X ∧ X < Y
section
variable {w W W' : World} {XR XC XO YO : Obj} {X Y : Nat}
theorem PAg.on (K : PAg w W XR XC XO YO X Y) (h : Below W.heap.size W W') : PAg w W' XR XC XO YO X Y := ⟨e_on h K.hx (e_lt K.hx), e_on h K.hc (e_lt K.hc), e_on h K.hX (e_lt K.hX), e_on h K.hY (e_lt K.hY), K.hb.trans (h.mono K.hb.size), K.hh⟩
theorem PAg.drew (K : PAg w W XR XC XO YO X Y) : PAg w W.drew XR XC XO YO X Y := K.on (Below.refl _ _).drew
theorem PAg.putX {cs cs' : Array Value} {t : TypeId} (K : PAg w W XR XC (.cells cs t (0, 0)) YO X Y) {XO' : Obj} (h : XO' = .cells cs' t (0, 0)) : PAg w (W.setRow X cs') XR XC XO' YO X Y := by
  subst h
  have := K.hh
  exact ⟨(setRow_other _ _ _ _ (by omega)).trans K.hx, (setRow_other _ _ _ _ (by omega)).trans K.hc, setRow_heap _ _ _ _ _ _ K.hX, (setRow_other _ _ _ _ (by omega)).trans K.hY, below_setRow K.hb (by omega) _, K.hh⟩
theorem PAg.putY {cs cs' : Array Value} {t : TypeId} (K : PAg w W XR XC XO (.cells cs t (0, 0)) X Y) {YO' : Obj} (h : YO' = .cells cs' t (0, 0)) : PAg w (W.setRow Y cs') XR XC XO YO' X Y := by
  subst h
  have := K.hh
  exact ⟨(setRow_other _ _ _ _ (by omega)).trans K.hx, (setRow_other _ _ _ _ (by omega)).trans K.hc, (setRow_other _ _ _ _ (by omega)).trans K.hX, setRow_heap _ _ _ _ _ _ K.hY, below_setRow K.hb (by omega) _, K.hh⟩
theorem PAg.far (K : PAg w W XR XC XO YO X Y) {b : Nat} (h : Plus (fun b => b < w.heap.size) W.heap.size b) : b ≠ X ∧ b ≠ Y := by
  have h1 := K.hh
  have h2 := e_lt K.hX
  have h3 := e_lt K.hY
  rcases h with h | h <;> omega
end
set_option maxHeartbeats 16000000 in
set_option maxRecDepth 20000 in
theorem poolAgree_any (H : PoolOk) (F : Nat → Prop) (P : Po) (cz cs cb cq cd ch zone : Int) (hb0 : Bool) (a : Option Addr) (n c : Nat) (h k : Int) (w : World) (hl : FList w F a n c h k P) (hn : n ≤ 1000) :
    Calls Try.prog 6 #[poV a n c h k, confV cz cs cb cq cd ch, .int .i64 zone, .bool hb0] w fun r w' => r = .returned (.bool true) ∧ Below w.heap.size w w' := by
  have hb := ((Below.refl w.heap.size w).alloc (Nat.le_refl _) (poRow a n c h k)).alloc (by simp) (confRow cz cs cb cq cd ch)
  have hx := heap_first w (poRow a n c h k) (confRow cz cs cb cq cd ch)
  have hc := heap_second w (poRow a n c h k) (confRow cz cs cb cq cd ch)
  have hlw : ∀ W, Below w.heap.size w W → FList W (fun b => b < w.heap.size) a n c h k P := fun W h => hl.same h
  have hFw : ∀ W, Below w.heap.size w W → ∀ b, b < w.heap.size → b < W.heap.size := fun W h b hb => Nat.lt_of_lt_of_le hb h.size
  have v1 := fun W q => H.valid _ P cz cs cb cq cd ch a n c h k W (hFw W q) (hlw W q) hn
  have v2 := fun W q => refPValid_any _ P cz cs cb cq cd ch a n c h k W (hlw W q)
  have hput1 := fun W q => H.put _ P cz cs cb cq cd ch zone a n c h k W (hFw W q) (hlw W q) hn
  have hput2 := fun W q => refPoPut_any _ P cz cs cb cq cd ch zone a n c h k W (hlw W q) (by omega)
  have hhost1 := fun W q => H.host _ P cz cs cb cq cd ch a n c h k W (hFw W q) (hlw W q) hn
  have hhost2 := fun W q => refHost_any _ P cz cs cb cq cd ch a n c h k W (hlw W q) (by omega)
  have hclean1 := fun W q => H.clean _ P cz cs cb cq cd ch a n c h k W (hFw W q) (hlw W q) hn
  have hclean2 := fun W q => refCleaner_any _ P cz cs cb cq cd ch a n c h k W (hlw W q) (by omega)
  have hleave1 := fun W q => H.leave _ P cz cs cb cq cd ch hb0 a n c h k W (hFw W q) (hlw W q) hn
  have hleave2 := fun W q => refLeave_any _ P cz cs cb cq cd ch hb0 a n c h k W (hlw W q)
  clear hlw hFw hl
  unfold PoPost at hput1 hput2 hhost1 hhost2 hclean1 hclean2 hleave1 hleave2
  unfold confV at *
  generalize decide (errN cz cs cb cq cd ch = 0) = V at *
  generalize isN cz cs cb cq cd ch = D at *
  generalize validP V D P = VB at v1 v2
  generalize putP V D P zone = Dput at hput1 hput2
  generalize putB V D P zone = Bput at hput1 hput2
  generalize hostP V D P = Dhost at hhost1 hhost2
  generalize hostB V D P = Bhost at hhost1 hhost2
  generalize cleanP V D P = Dclean at hclean1 hclean2
  generalize cleanB V D P = Bclean at hclean1 hclean2
  generalize leaveP V D P hb0 = Dleave at hleave1 hleave2
  generalize leaveB V D P hb0 = Bleave at hleave1 hleave2
  have V1 := Lib.hid v1
  have V2 := Lib.hid v2
  have Hput1 := Lib.hid hput1
  have Hput2 := Lib.hid hput2
  have Hhost1 := Lib.hid hhost1
  have Hhost2 := Lib.hid hhost2
  have Hclean1 := Lib.hid hclean1
  have Hclean2 := Lib.hid hclean2
  have Hleave1 := Lib.hid hleave1
  have Hleave2 := Lib.hid hleave2
  clear v1 v2 hput1 hput2 hhost1 hhost2 hclean1 hclean2 hleave1 hleave2
  go_enter Try.func6, Try.ntmps6
  generalize hw0 : (w.alloc (poRow a n c h k)).alloc (confRow cz cs cb cq cd ch) = w0 at *
  go_wp2_with (first
    | ((with_reducible refine Plan.load_lit 24 (.tmp 4) (w.heap.size) ?_ hx Try.underlying24 ?_ ?_ ?_); (· rfl); (· rfl); (· exact po_info); simp only [Act.put, List.setIfInBounds_toArray, List.set_cons_zero, List.set_cons_succ])
    | ((with_reducible refine Plan.load_lit 26 (.tmp 5) (w.heap.size + 1) ?_ hc Try.underlying26 ?_ ?_ ?_); (· rfl); (· rfl); (· exact conf_info); simp only [Act.put, List.setIfInBounds_toArray, List.set_cons_zero, List.set_cons_succ])
    | (go_at_call 18; ((with_reducible refine (Hput1.out _ hb).mono ?_); rintro r9 w5 ⟨xa, xn, xc, xh, xk, rfl, lx, h9⟩; have kX := e_lt (e_on h9 hc (e_lt hc)); have hb1 := hb.trans (h9.mono hb.size); have hx1 := e_al (e_on h9 hx (e_lt hx)) (poRow xa xn xc xh xk); have hc1 := e_al (e_on h9 hc (e_lt hc)) (poRow xa xn xc xh xk); have hX := heap_alloc_new w5 (poRow xa xn xc xh xk); have lx1 := lx.cut.on (Same.alloc w5 (poRow xa xn xc xh xk)); have hsz : (w5.alloc (poRow xa xn xc xh xk)).heap.size = w5.heap.size + 1 := (by simp); have hb2 := hb1.alloc hb1.size (poRow xa xn xc xh xk); clear hw0 Hput1 h9 hb hb1 hx hc lx; have hb := hb2; have hx := hx1; have hc := hc1; have lx := lx1; clear hb2 hx1 hc1 lx1))
    | (go_at_call 16; ((with_reducible refine (Hput2.out _ hb).mono ?_); rintro r9 w6 ⟨ya, yn, yc, yh, yk, rfl, ly, h9⟩; have kY := e_lt (e_on h9 hX (e_lt hX)); have hb1 := hb.trans (h9.mono hb.size); have K : PAg w (w6.alloc (poRow ya yn yc yh yk)) (poRow a n c h k) (confRow cz cs cb cq cd ch) (poRow xa xn xc xh xk) (poRow ya yn yc yh yk) w5.heap.size w6.heap.size := ⟨e_al (e_on h9 hx (e_lt hx)) (poRow ya yn yc yh yk), e_al (e_on h9 hc (e_lt hc)) (poRow ya yn yc yh yk), e_al (e_on h9 hX (e_lt hX)) (poRow ya yn yc yh yk), heap_alloc_new w6 (poRow ya yn yc yh yk), hb1.alloc hb1.size (poRow ya yn yc yh yk), kX, kY⟩; have lx1 := ((lx.cut.on (Same.below h9)).on (Same.alloc w6 (poRow ya yn yc yh yk))).mono (G := fun b => b ≠ w5.heap.size ∧ b ≠ w6.heap.size) (fun b _ h => by have h1 := h.2; have h0 := h.1.2; exact ⟨by omega, by omega⟩); have ly1 := (ly.cut.on (Same.alloc w6 (poRow ya yn yc yh yk))).mono (G := fun b => b ≠ w5.heap.size ∧ b ≠ w6.heap.size) (fun b _ h => by have h1 := h.2; rcases h.1 with h2 | h2; (· exact ⟨by omega, by omega⟩); (· rw [hsz] at h2; exact ⟨by omega, by omega⟩)); clear hsz Hput2 h9 hb1 hb hx hc hX lx ly kX kY; have lx := lx1; have ly := ly1; clear lx1 ly1)))
  generalize w5.heap.size = X at *
  generalize w6.heap.size = Y at *
  refine Plan.start (fun W => (W.cell? ⟨w.heap.size, 0, none⟩ = some (.slice a n c) ∧ W.cell? ⟨w.heap.size, 1, none⟩ = some (.int .i64 h) ∧ W.cell? ⟨w.heap.size, 2, none⟩ = some (.int .i64 k)) ∧ (W.cell? ⟨w.heap.size + 1, 0, none⟩ = some (.int .i64 cz) ∧ W.cell? ⟨w.heap.size + 1, 1, none⟩ = some (.int .i64 cs) ∧ W.cell? ⟨w.heap.size + 1, 2, none⟩ = some (.int .i64 cb) ∧ W.cell? ⟨w.heap.size + 1, 3, none⟩ = some (.int .i64 cq) ∧ W.cell? ⟨w.heap.size + 1, 4, none⟩ = some (.int .i64 cd) ∧ W.cell? ⟨w.heap.size + 1, 5, none⟩ = some (.int .i64 ch)) ∧ (W.cell? ⟨X, 0, none⟩ = some (.slice xa xn xc) ∧ W.cell? ⟨X, 1, none⟩ = some (.int .i64 xh) ∧ W.cell? ⟨X, 2, none⟩ = some (.int .i64 xk)) ∧ W.cell? ⟨Y, 0, none⟩ = some (.slice ya yn yc) ∧ W.cell? ⟨Y, 1, none⟩ = some (.int .i64 yh) ∧ W.cell? ⟨Y, 2, none⟩ = some (.int .i64 yk)) [(0, true), (1, true), (2, true), (3, true), (4, true), (5, true), (6, false), (7, true), (8, true), (9, true), (10, true), (11, true), (13, true), (14, true), (12, false), (15, false), (16, true), (17, true)] (by kernel_rfl) (by kernel_rfl) (by kernel_rfl) (by kernel_rfl) (show _ from ⟨three_row K.drew.hx, six_row K.drew.hc, three_row K.drew.hX, three_row K.drew.hY⟩) ?_
  simp only [List.map_cons, List.map_nil, List.getElem?_toArray, List.getElem?_cons_zero, List.getElem?_cons_succ]
  repeat (first | (refine Plan.take ?_ (by rfl) ?_ ?_; rotate_left; (· rintro w9 ⟨⟨c0, c1, c2⟩, ⟨d0, d1, d2, d3, d4, d5⟩, ⟨x0, x1, x2⟩, y0, y1, y2⟩; go_simp; (try rw [if_neg (by omega)]); all_goals (with_reducible rfl)); simp only [Act.put, List.setIfInBounds_toArray, List.set_cons_zero, List.set_cons_succ]) | (refine Plan.pass (by rfl) ?_; simp only [Act.put, List.setIfInBounds_toArray, List.set_cons_zero, List.set_cons_succ]))
  have K1 := K.drew
  have lx1 := lx.on (w' := (w6.alloc (poRow ya yn yc yh yk)).drew) ⟨Nat.le_refl _, fun _ _ _ => rfl⟩
  have ly1 := ly.on (w' := (w6.alloc (poRow ya yn yc yh yk)).drew) ⟨Nat.le_refl _, fun _ _ _ => rfl⟩
  clear K lx ly
  have K := K1
  have lx := lx1
  have ly := ly1
  clear K1 lx1 ly1
  refine Plan.call (by rfl) 23 _ ?_ (refPSame_any _ _ _ _ _ _ _ _ _ _ _ _ _ _ lx ly) ?_
  · go_simp
  rintro r9 w7 ⟨rfl, h9⟩
  have K1 := K.on h9
  clear h9 K
  have K := K1
  clear K1
  refine ⟨_, rfl, ⟨three_row K.hx, six_row K.hc, three_row K.hX, three_row K.hY⟩, ?_⟩
  simp only [Act.put, List.setIfInBounds_toArray, List.set_cons_zero, List.set_cons_succ]
  repeat (first | (refine Plan.take ?_ (by rfl) ?_ ?_; rotate_left; (· rintro w9 ⟨⟨c0, c1, c2⟩, ⟨d0, d1, d2, d3, d4, d5⟩, ⟨x0, x1, x2⟩, y0, y1, y2⟩; go_simp; (try rw [if_neg (by omega)]); all_goals (with_reducible rfl)); simp only [Act.put, List.setIfInBounds_toArray, List.set_cons_zero, List.set_cons_succ]) | (refine Plan.pass (by rfl) ?_; simp only [Act.put, List.setIfInBounds_toArray, List.set_cons_zero, List.set_cons_succ]))
  clear lx ly
  refine Plan.call (by rfl) 22 _ ?_ (V1.out _ K.hb) ?_
  · go_simp
  rintro r9 w7 ⟨rfl, h9⟩
  have K1 := K.on h9
  clear h9 K
  have K := K1
  clear K1
  refine ⟨_, rfl, ⟨three_row K.hx, six_row K.hc, three_row K.hX, three_row K.hY⟩, ?_⟩
  simp only [Act.put, List.setIfInBounds_toArray, List.set_cons_zero, List.set_cons_succ]
  repeat (first | (refine Plan.take ?_ (by rfl) ?_ ?_; rotate_left; (· rintro w9 ⟨⟨c0, c1, c2⟩, ⟨d0, d1, d2, d3, d4, d5⟩, ⟨x0, x1, x2⟩, y0, y1, y2⟩; go_simp; (try rw [if_neg (by omega)]); all_goals (with_reducible rfl)); simp only [Act.put, List.setIfInBounds_toArray, List.set_cons_zero, List.set_cons_succ]) | (refine Plan.pass (by rfl) ?_; simp only [Act.put, List.setIfInBounds_toArray, List.set_cons_zero, List.set_cons_succ]))
  refine Plan.call (by rfl) 24 _ ?_ (V2.out _ K.hb) ?_
  · go_simp
  rintro r9 w7 ⟨rfl, h9⟩
  have K1 := K.on h9
  clear h9 K
  have K := K1
  clear K1
  refine ⟨_, rfl, ⟨three_row K.hx, six_row K.hc, three_row K.hX, three_row K.hY⟩, ?_⟩
  simp only [Act.put, List.setIfInBounds_toArray, List.set_cons_zero, List.set_cons_succ]
  repeat (first | (refine Plan.take ?_ (by rfl) ?_ ?_; rotate_left; (· rintro w9 ⟨⟨c0, c1, c2⟩, ⟨d0, d1, d2, d3, d4, d5⟩, ⟨x0, x1, x2⟩, y0, y1, y2⟩; go_simp; (try rw [if_neg (by omega)]); all_goals (with_reducible rfl)); simp only [Act.put, List.setIfInBounds_toArray, List.set_cons_zero, List.set_cons_succ]) | (refine Plan.pass (by rfl) ?_; simp only [Act.put, List.setIfInBounds_toArray, List.set_cons_zero, List.set_cons_succ]))
  refine Plan.ends ?_
  clear V1 V2
  generalize w7 = w9 at *
  go_wp2_with (first
    | (go_at_call 19; ((with_reducible refine (Hhost1.out _ K.hb).mono ?_); rintro r9 w5 ⟨xa, xn, xc, xh, xk, rfl, lx, h9⟩; have lx1 := lx.mono (G := fun b => b ≠ X ∧ b ≠ Y) (fun b _ h => K.far h); have K1 := K.on h9; clear Hhost1 h9 lx K; have K := K1; have lx := lx1; clear K1 lx1))
    | (go_at_call 13; ((with_reducible refine (Hhost2.out _ K.hb).mono ?_); rintro r9 w6 ⟨ya, yn, yc, yh, yk, rfl, ly, h9⟩; have ly1 := ly.mono (G := fun b => b ≠ X ∧ b ≠ Y) (fun b _ h => K.far h); have lx1 := lx.on (Same.below h9); have K1 := K.on h9; clear Hhost2 h9 lx ly K; have K := K1; have lx := lx1; have ly := ly1; clear K1 lx1 ly1))
    | (go_at_call 20; ((with_reducible refine (Hclean1.out _ K.hb).mono ?_); rintro r9 w5 ⟨xa, xn, xc, xh, xk, rfl, lx, h9⟩; have lx1 := lx.mono (G := fun b => b ≠ X ∧ b ≠ Y) (fun b _ h => K.far h); have K1 := K.on h9; clear Hclean1 h9 lx K; have K := K1; have lx := lx1; clear K1 lx1))
    | (go_at_call 14; ((with_reducible refine (Hclean2.out _ K.hb).mono ?_); rintro r9 w6 ⟨ya, yn, yc, yh, yk, rfl, ly, h9⟩; have ly1 := ly.mono (G := fun b => b ≠ X ∧ b ≠ Y) (fun b _ h => K.far h); have lx1 := lx.on (Same.below h9); have K1 := K.on h9; clear Hclean2 h9 lx ly K; have K := K1; have lx := lx1; have ly := ly1; clear K1 lx1 ly1))
    | (go_at_call 21; ((with_reducible refine (Hleave1.out _ K.hb).mono ?_); rintro r9 w5 ⟨xa, xn, xc, xh, xk, rfl, lx, h9⟩; have lx1 := lx.mono (G := fun b => b ≠ X ∧ b ≠ Y) (fun b _ h => K.far h); have K1 := K.on h9; clear Hleave1 h9 lx K; have K := K1; have lx := lx1; clear K1 lx1))
    | (go_at_call 15; ((with_reducible refine (Hleave2.out _ K.hb).mono ?_); rintro r9 w6 ⟨ya, yn, yc, yh, yk, rfl, ly, h9⟩; have ly1 := ly.mono (G := fun b => b ≠ X ∧ b ≠ Y) (fun b _ h => K.far h); have lx1 := lx.on (Same.below h9); have K1 := K.on h9; clear Hleave2 h9 lx ly K; have K := K1; have lx := lx1; have ly := ly1; clear K1 lx1 ly1))
    | ((with_reducible refine Plan.load_lit 24 (.tmp 4) (w.heap.size) ?_ K.hx Try.underlying24 ?_ ?_ ?_); (· rfl); (· rfl); (· exact po_info); simp only [Act.put, List.setIfInBounds_toArray, List.set_cons_zero, List.set_cons_succ])
    | ((with_reducible refine Plan.load_lit 26 (.tmp 5) (w.heap.size + 1) ?_ K.hc Try.underlying26 ?_ ?_ ?_); (· rfl); (· rfl); (· exact conf_info); simp only [Act.put, List.setIfInBounds_toArray, List.set_cons_zero, List.set_cons_succ])
    | ((with_reducible refine load_lit_gc 24 (.tmp 9) (X) ?_ ?_ K.hX Try.underlying24 ?_ ?_ ?_); (· rfl); (· rfl); (· rfl); (· exact po_info); simp only [Act.put, List.setIfInBounds_toArray, List.set_cons_zero, List.set_cons_succ])
    | ((with_reducible refine load_lit_gc 24 (.tmp 11) (Y) ?_ ?_ K.hY Try.underlying24 ?_ ?_ ?_); (· rfl); (· rfl); (· rfl); (· exact po_info); simp only [Act.put, List.setIfInBounds_toArray, List.set_cons_zero, List.set_cons_succ])
    | (go_at_call 23; ((with_reducible refine (refPSame_any _ _ _ _ _ _ _ _ _ _ _ _ _ _ lx ly).mono ?_); rintro r9 w7 ⟨rfl, h9⟩; have K1 := K.on h9; clear h9 lx ly K; have K := K1; clear K1))
    | ((with_reducible refine Plan.store_lit 24 (.tmp 9) _ X ?_ K.hX ?_ ?_ ?_ ?_ ?_ ?_); rotate_left; (· rfl); (· rfl); (· exact po_info); (· rfl); (· simp [Value.oneCell']); simp only [Act.put]; have K1 := K.putX (cs' := #[.slice xa xn xc, .int .i64 xh, .int .i64 xk]) (XO' := poRow xa xn xc xh xk) rfl; have lx1 := lx.on (Same.row (r := X) (fun h => h.1 rfl) #[.slice xa xn xc, .int .i64 xh, .int .i64 xk]); generalize w5.setRow X #[.slice xa xn xc, .int .i64 xh, .int .i64 xk] = w7 at *; clear K lx; have K := K1; have lx := lx1; clear K1 lx1)
    | ((with_reducible refine Plan.store_lit 24 (.tmp 11) _ Y ?_ K.hY ?_ ?_ ?_ ?_ ?_ ?_); rotate_left; (· rfl); (· rfl); (· exact po_info); (· rfl); (· simp [Value.oneCell']); simp only [Act.put]; have K1 := K.putY (cs' := #[.slice ya yn yc, .int .i64 yh, .int .i64 yk]) (YO' := poRow ya yn yc yh yk) rfl; have lx1 := lx.on (Same.row (r := Y) (fun h => h.2 rfl) #[.slice ya yn yc, .int .i64 yh, .int .i64 yk]); have ly1 := ly.on (Same.row (r := Y) (fun h => h.2 rfl) #[.slice ya yn yc, .int .i64 yh, .int .i64 yk]); generalize w6.setRow Y #[.slice ya yn yc, .int .i64 yh, .int .i64 yk] = w7 at *; clear K lx ly; have K := K1; have lx := lx1; have ly := ly1; clear K1 lx1 ly1))
  go_ret
  exact ⟨rfl, K.hb⟩
end Go.Proofs.Ytjdlekjikemdpaa.Ents

/- The walks of the law's awake and of PoolRaw, under the program's contracts. -/
namespace Go.Proofs.Ytjdlekjikemdpaa.Ents
open Go.RowKit Plan EntMath CntMath PoolMath LayMath
theorem aw_small : smZ [] 0 = 8 ∧ smS [] 0 = 3 ∧ smB [] 0 = 1 ∧ smQ [] 0 = 1 ∧ smD [] 0 = 1 ∧ smH [] 0 = 1 := by decide
theorem aw_err : decide (errN 8 3 1 1 1 1 = 0) = true := by decide
theorem aw_pool : hostP true (isN 8 3 1 1 1 1) ⟨[3, 4, 5], -1, -1⟩ = ⟨[4, 5], 3, -1⟩ ∧ hostB true (isN 8 3 1 1 1 1) ⟨[3, 4, 5], -1, -1⟩ = true ∧ leaveP true (isN 8 3 1 1 1 1) ⟨[4, 5], 3, -1⟩ true = ⟨[4, 5], -1, -1⟩ ∧ leaveB true (isN 8 3 1 1 1 1) ⟨[4, 5], 3, -1⟩ true = true
    ∧ hostP true (isN 8 3 1 1 1 1) ⟨[4, 5], -1, -1⟩ = ⟨[4, 5], -1, -1⟩ ∧ hostB true (isN 8 3 1 1 1 1) ⟨[4, 5], -1, -1⟩ = false ∧ cleanP true (isN 8 3 1 1 1 1) ⟨[4, 5], -1, -1⟩ = ⟨[5], -1, 4⟩ ∧ cleanB true (isN 8 3 1 1 1 1) ⟨[4, 5], -1, -1⟩ = true :=
  ⟨by rfl, by rfl, by rfl, by rfl, by rfl, by rfl, by rfl, by rfl⟩
theorem FList.low {w : World} {F : Nat → Prop} {a : Option Addr} {h k : Int} {n c : Nat} {P : Po} (l : FList w F a n c h k P) : FList w (fun b => b < w.heap.size) a n c h k P := ⟨l.hh, l.hk, l.f.low⟩
theorem aw_list {w : World} {g : Nat} {x y z : Int} (h : w.heap[g]? = some (.cells #[.int .i64 x, .int .i64 y, .int .i64 z] 3)) : IList w (fun b => b < w.heap.size) (some ⟨g, 0, none⟩) 3 3 [x, y, z] :=
  .inr ⟨_, rfl, Nat.le_refl _, by unfold maxLen; decide, rfl, e_lt h, e_lt h, fun j u hu => by
    rw [Addr.add_lit, Nat.zero_add]
    match j, hu with
    | 0, hu => cases hu; exact cell_of_row _ _ 0 _ _ _ h
    | 1, hu => cases hu; exact cell_of_row _ _ 1 _ _ _ h
    | 2, hu => cases hu; exact cell_of_row _ _ 2 _ _ _ h
    | j + 3, hu => simp at hu⟩
set_option maxHeartbeats 8000000 in
set_option maxRecDepth 20000 in
theorem poolAwake_any (H : PoolOk) (w : World) : Calls Try.prog 7 #[] w fun r w' => r = .returned (.bool true) ∧ Below w.heap.size w w' := by
  obtain ⟨e1, e2, e3, e4, e5, e6, e7, e8⟩ := aw_pool
  have t1 := fun W (F : Nat → Prop) a n c h k (q : ∀ b, F b → b < W.heap.size) (l : FList W F a n c h k ⟨[3, 4, 5], -1, -1⟩) => H.host F _ 8 3 1 1 1 1 a n c h k W q l (by have := l.f.length; simp at this; omega)
  have t2 := fun W (F : Nat → Prop) a n c h k (q : ∀ b, F b → b < W.heap.size) (l : FList W F a n c h k ⟨[4, 5], 3, -1⟩) => H.leave F _ 8 3 1 1 1 1 true a n c h k W q l (by have := l.f.length; simp at this; omega)
  have t3 := fun W (F : Nat → Prop) a n c h k (q : ∀ b, F b → b < W.heap.size) (l : FList W F a n c h k ⟨[4, 5], -1, -1⟩) => H.host F _ 8 3 1 1 1 1 a n c h k W q l (by have := l.f.length; simp at this; omega)
  have t4 := fun W (F : Nat → Prop) a n c h k (q : ∀ b, F b → b < W.heap.size) (l : FList W F a n c h k ⟨[4, 5], -1, -1⟩) => H.clean F _ 8 3 1 1 1 1 a n c h k W q l (by have := l.f.length; simp at this; omega)
  simp only [aw_err] at t1 t2 t3 t4
  unfold PoPost at t1 t2 t3 t4
  unfold confV at t1 t2 t3 t4
  simp only [e1, e2] at t1
  simp only [e3, e4] at t2
  simp only [e5, e6] at t3
  simp only [e7, e8] at t4
  clear e1 e2 e3 e4 e5 e6 e7 e8
  have T1 := Lib.hid t1
  have T2 := Lib.hid t2
  have T3 := Lib.hid t3
  have T4 := Lib.hid t4
  clear t1 t2 t3 t4
  have K0 := Lib.hid (Bxs.start w)
  go_enter Try.func7, Try.ntmps7
  go_wp2_with (first
    | (go_at_call 9; ((with_reducible refine (roll_none _).mono ?_); rintro r9 w1 ⟨g, rfl, hd, hb⟩; have K := K0.out.on hb; clear K0))
    | (go_at_call 10; ((with_reducible refine (small_any _ _ g [] 0 hd (by simp)).mono ?_); rintro r9 w2 ⟨rfl, hd2, gr2⟩; rw [aw_small.1, aw_small.2.1, aw_small.2.2.1, aw_small.2.2.2.1, aw_small.2.2.2.2.1, aw_small.2.2.2.2.2]; unfold confV; have K1 := ((K.grown gr2 (fun z hz => by obtain rfl := Option.some.inj hz; exact ⟨dice_base hd, fun x hx => absurd hx (by simp)⟩)).al (confRow 8 3 1 1 1 1)).al (.cells #[.int .i64 3, .int .i64 4, .int .i64 5] 3); have hs2 : (w2.alloc (confRow 8 3 1 1 1 1)).heap.size = w2.heap.size + 1 := (by simp); rw [hs2] at K1; have l0 := aw_list (K1.get 0 rfl); have l2 : FList _ _ _ _ _ (-1) (-1) ⟨[3, 4, 5], -1, -1⟩ := ⟨rfl, rfl, l0.same ((Below.refl _ _).alloc (Nat.le_refl _) (poRow (some ⟨w2.heap.size + 1, 0, none⟩) 3 3 (-1) (-1)))⟩; have K2 := K1.al (poRow (some ⟨w2.heap.size + 1, 0, none⟩) 3 3 (-1) (-1)); have hs3 : ((w2.alloc (confRow 8 3 1 1 1 1)).alloc (.cells #[.int .i64 3, .int .i64 4, .int .i64 5] 3)).heap.size = w2.heap.size + 1 + 1 := (by simp); rw [hs3] at K2; clear K K1 l0 hd hd2 gr2 hs2 hs3; have K := K2; clear K2))
    | (go_at_call 19; ((with_reducible refine (T1.out _ _ _ _ _ _ _ (fun b h => h) (FList.low l2)).mono ?_); rintro r9 w3 ⟨a3, n3, c3, h3, k3, rfl, l3, q9⟩; obtain rfl : h3 = 3 := l3.hh.symm; obtain rfl : k3 = (-1) := l3.hk.symm; obtain rfl : n3 = 2 := l3.f.length.symm; have K1 := (K.on q9).al (poRow a3 2 c3 3 (-1)); have l3 := (l3.mono (G := fun b => b < w3.heap.size) (fun b h _ => h)).same ((Below.refl _ _).alloc (Nat.le_refl _) (poRow a3 2 c3 3 (-1))); clear K T1 q9; have K := K1; clear K1))
    | (go_at_call 21; ((with_reducible refine (T2.out _ _ _ _ _ _ _ (fun b h => h) (FList.low l3)).mono ?_); rintro r9 w4 ⟨a4, n4, c4, h4, k4, rfl, l4, q9⟩; obtain rfl : h4 = (-1) := l4.hh.symm; obtain rfl : k4 = (-1) := l4.hk.symm; obtain rfl : n4 = 2 := l4.f.length.symm; have K1 := (K.on q9).al (poRow a4 2 c4 (-1) (-1)); have l4 := (l4.mono (G := fun b => b < w4.heap.size) (fun b h _ => h)).same ((Below.refl _ _).alloc (Nat.le_refl _) (poRow a4 2 c4 (-1) (-1))); clear K T2 q9; have K := K1; clear K1))
    | (go_at_call 19; ((with_reducible refine (T3.out _ _ _ _ _ _ _ (fun b h => h) (FList.low l4)).mono ?_); rintro r9 w5 ⟨a5, n5, c5, h5, k5, rfl, l5, q9⟩; obtain rfl : h5 = (-1) := l5.hh.symm; obtain rfl : k5 = (-1) := l5.hk.symm; obtain rfl : n5 = 2 := l5.f.length.symm; have K1 := (K.on q9).al (poRow a5 2 c5 (-1) (-1)); have l5 := (l5.mono (G := fun b => b < w5.heap.size) (fun b h _ => h)).same ((Below.refl _ _).alloc (Nat.le_refl _) (poRow a5 2 c5 (-1) (-1))); have l4 := (l4.same q9).same ((Below.refl _ _).alloc (Nat.le_refl _) (poRow a5 2 c5 (-1) (-1))); clear K T3 q9; have K := K1; clear K1))
    | (go_at_call 20; ((with_reducible refine (T4.out _ _ _ _ _ _ _ (fun b h => h) (FList.low l4)).mono ?_); rintro r9 w6 ⟨a6, n6, c6, h6, k6, rfl, l6, q9⟩; obtain rfl : h6 = (-1) := l6.hh.symm; obtain rfl : k6 = 4 := l6.hk.symm; obtain rfl : n6 = 1 := l6.f.length.symm; have K1 := (K.on q9).al (poRow a6 1 c6 (-1) 4); have l6 := (l6.mono (G := fun b => b < w6.heap.size) (fun b h _ => h)).same ((Below.refl _ _).alloc (Nat.le_refl _) (poRow a6 1 c6 (-1) 4)); clear K T4 q9; have K := K1; clear K1; obtain ⟨c0, c1, c2⟩ := three_row (K.get 0 rfl); obtain ⟨d0, d1, d2⟩ := three_row (K.get 3 rfl)))
    | ((with_reducible refine Plan.load_lit 24 (.tmp 2) (w2.heap.size + 1 + 1) ?_ (K.get 0 rfl) Try.underlying24 ?_ ?_ ?_); (· rfl); (· rfl); (· exact po_info); simp only [Act.put, List.setIfInBounds_toArray, List.set_cons_zero, List.set_cons_succ])
    | ((with_reducible refine Plan.load_lit 24 (.tmp 3) (w3.heap.size) ?_ (K.get 0 rfl) Try.underlying24 ?_ ?_ ?_); (· rfl); (· rfl); (· exact po_info); simp only [Act.put, List.setIfInBounds_toArray, List.set_cons_zero, List.set_cons_succ])
    | ((with_reducible refine Plan.load_lit 24 (.tmp 5) (w4.heap.size) ?_ (K.get 0 rfl) Try.underlying24 ?_ ?_ ?_); (· rfl); (· rfl); (· exact po_info); simp only [Act.put, List.setIfInBounds_toArray, List.set_cons_zero, List.set_cons_succ])
    | ((with_reducible refine Plan.load_lit 24 (.tmp 5) (w4.heap.size) ?_ (K.get 1 rfl) Try.underlying24 ?_ ?_ ?_); (· rfl); (· rfl); (· exact po_info); simp only [Act.put, List.setIfInBounds_toArray, List.set_cons_zero, List.set_cons_succ])
    | ((with_reducible refine Plan.load_lit 26 (.tmp 1) (w2.heap.size) ?_ (K.get 2 rfl) Try.underlying26 ?_ ?_ ?_); (· rfl); (· rfl); (· exact conf_info); simp only [Act.put, List.setIfInBounds_toArray, List.set_cons_zero, List.set_cons_succ])
    | ((with_reducible refine Plan.load_lit 26 (.tmp 1) (w2.heap.size) ?_ (K.get 3 rfl) Try.underlying26 ?_ ?_ ?_); (· rfl); (· rfl); (· exact conf_info); simp only [Act.put, List.setIfInBounds_toArray, List.set_cons_zero, List.set_cons_succ])
    | ((with_reducible refine Plan.load_lit 26 (.tmp 1) (w2.heap.size) ?_ (K.get 4 rfl) Try.underlying26 ?_ ?_ ?_); (· rfl); (· rfl); (· exact conf_info); simp only [Act.put, List.setIfInBounds_toArray, List.set_cons_zero, List.set_cons_succ])
    | ((with_reducible refine Plan.load_lit 26 (.tmp 1) (w2.heap.size) ?_ (K.get 5 rfl) Try.underlying26 ?_ ?_ ?_); (· rfl); (· rfl); (· exact conf_info); simp only [Act.put, List.setIfInBounds_toArray, List.set_cons_zero, List.set_cons_succ]))
  go_ret
  exact ⟨rfl, K.hb⟩
set_option maxHeartbeats 4000000 in
set_option maxRecDepth 20000 in
theorem poolRaw_any (H : PoolOk) (F : Nat → Prop) (P : Po) (cz cs cb cq cd ch zone : Int) (hb0 : Bool) (a : Option Addr) (n c : Nat) (h k : Int) (w : World) (hl : FList w F a n c h k P) :
    Calls Try.prog 3 #[poV a n c h k, confV cz cs cb cq cd ch, .int .i64 zone, .bool hb0] w fun r w' => r = .returned (.bool true) ∧ Below w.heap.size w w' := by
  have K := ((Bxs.start w).al (poRow a n c h k)).al (confRow cz cs cb cq cd ch)
  have hs1 : (w.alloc (poRow a n c h k)).heap.size = w.heap.size + 1 := by simp
  rw [hs1] at K
  clear hs1
  have HW := Lib.hid (fun W => poolAwake_any H W)
  have hcp := hl.f.cap
  unfold maxLen at hcp
  by_cases hm : n ≤ 100
  · have HG := Lib.hid (fun W (q : Below w.heap.size w W) => poolAgree_any H _ P cz cs cb cq cd ch zone hb0 a n c h k W (hl.same q) (by omega))
    unfold confV at *
    have d1 : decide ((100 : Int) < (n : Int)) = false := by simp; omega
    have d2 : decide (100 < n) = false := by simp; omega
    have d3 : ¬ (100 : Int) < (n : Int) := by omega
    clear hl
    go_enter Try.func3, Try.ntmps3
    obtain ⟨c0, _⟩ := three_row (K.get 1 rfl)
    generalize hw0 : (w.alloc (poRow a n c h k)).alloc (confRow cz cs cb cq cd ch) = w0 at *
    go_wp2_with (first
      | ((with_reducible refine load_lit_gc 24 (.tmp 4) (w.heap.size) ?_ ?_ (K.get 1 rfl) Try.underlying24 ?_ ?_ ?_); (· rfl); (· rfl); (· rfl); (· exact po_info); simp only [Act.put, List.setIfInBounds_toArray, List.set_cons_zero, List.set_cons_succ])
      | ((with_reducible refine load_lit_gc 26 (.tmp 5) (w.heap.size + 1) ?_ ?_ (K.get 0 rfl) Try.underlying26 ?_ ?_ ?_); (· rfl); (· rfl); (· rfl); (· exact conf_info); simp only [Act.put, List.setIfInBounds_toArray, List.set_cons_zero, List.set_cons_succ])
      | (go_at_call 6; ((with_reducible refine (HG.out _ K.hb).mono ?_); rintro r9 w1 ⟨rfl, q9⟩; have K1 := K.on q9; clear K q9; have K := K1; clear K1))
      | (go_at_call 7; ((with_reducible refine (HW.out _).mono ?_); rintro r9 w2 ⟨rfl, q9⟩; have K1 := K.on q9; clear K q9; have K := K1; clear K1)))
    go_ret
    exact ⟨rfl, K.hb⟩
  · have HG := Lib.hid (fun W (_ : Below w.heap.size w W) => (trivial : True))
    unfold confV at *
    have d1 : decide ((100 : Int) < (n : Int)) = true := by simp; omega
    have d2 : decide (100 < n) = true := by simp; omega
    clear hl
    go_enter Try.func3, Try.ntmps3
    obtain ⟨c0, _⟩ := three_row (K.get 1 rfl)
    generalize hw0 : (w.alloc (poRow a n c h k)).alloc (confRow cz cs cb cq cd ch) = w0 at *
    go_wp2_with (first
      | ((with_reducible refine load_lit_gc 24 (.tmp 4) (w.heap.size) ?_ ?_ (K.get 1 rfl) Try.underlying24 ?_ ?_ ?_); (· rfl); (· rfl); (· rfl); (· exact po_info); simp only [Act.put, List.setIfInBounds_toArray, List.set_cons_zero, List.set_cons_succ])
      | ((with_reducible refine load_lit_gc 26 (.tmp 5) (w.heap.size + 1) ?_ ?_ (K.get 0 rfl) Try.underlying26 ?_ ?_ ?_); (· rfl); (· rfl); (· rfl); (· exact conf_info); simp only [Act.put, List.setIfInBounds_toArray, List.set_cons_zero, List.set_cons_succ])
      | (go_at_call 6; ((with_reducible refine (HG.out _ K.hb).mono ?_); rintro r9 w1 ⟨rfl, q9⟩; have K1 := K.on q9; clear K q9; have K := K1; clear K1))
      | (go_at_call 7; ((with_reducible refine (HW.out _).mono ?_); rintro r9 w2 ⟨rfl, q9⟩; have K1 := K.on q9; clear K q9; have K := K1; clear K1)))
    go_ret
    exact ⟨rfl, K.hb⟩
end Go.Proofs.Ytjdlekjikemdpaa.Ents

/- The walk of PoolSteps, under the program's contracts. -/
namespace Go.Proofs.Ytjdlekjikemdpaa.PoolMath
theorem host_len (V : Bool) (D : Int → Bool) (P : Po) : (hostP V D P).free.length ≤ P.free.length := by unfold hostP; split <;> simp
theorem clean_len (V : Bool) (D : Int → Bool) (P : Po) : (cleanP V D P).free.length ≤ P.free.length := by unfold cleanP; split <;> simp
theorem leave_len (V : Bool) (D : Int → Bool) (P : Po) (b : Bool) : (leaveP V D P b).free.length = P.free.length := by unfold leaveP; split <;> (try split) <;> rfl
theorem ins_len (L : List Int) (z : Int) : (insL L z).length = L.length + 1 := by
  have h := congrArg List.length (List.takeWhile_append_dropWhile (p := (· < z)) (l := L))
  rw [List.length_append] at h
  unfold insL
  rw [List.length_append, List.length_cons]
  omega
theorem put_len (V : Bool) (D : Int → Bool) (P : Po) (z : Int) : (putP V D P z).free.length ≤ P.free.length + 1 := by
  unfold putP
  split
  · exact Nat.le_of_eq (ins_len _ _)
  · exact Nat.le_succ _
end Go.Proofs.Ytjdlekjikemdpaa.PoolMath
namespace Go.Proofs.Ytjdlekjikemdpaa.Ents
open Go.RowKit Plan EntMath CntMath PoolMath LayMath
theorem isRow_up {k : IntKind} {w W : World} {a : Option Addr} {l c : Nat} {zs : List Int} (h : IsRow k w a l c zs) (hb : Below w.heap.size w W) : IsRow k W a l c zs := by
  rcases h with h | ⟨x, h1, h2, h3, h4, h5, h6⟩
  · exact .inl h
  · exact .inr ⟨x, h1, h2, h3, h4, fun i hi => (hb.cell (p := x.add i) (World.block_lt_of_cell? w _ (h5 i hi))).trans (h5 i hi), h6⟩
theorem stp_up (zs : List Int) (k : Nat) : stp zs k ≤ k + 1 := by unfold stp; split <;> omega
theorem smk_up (zs : List Int) (k : Nat) : smK zs k ≤ k + 6 := by
  unfold smK smK5
  have h1 := stp_up zs k
  have h2 := stp_up zs (stp zs k)
  have h3 := stp_up zs (stp zs (stp zs k))
  have h4 := stp_up zs (stp zs (stp zs (stp zs k)))
  have h5 := stp_up zs (stp zs (stp zs (stp zs (stp zs k))))
  have h6 := stp_up zs (stp zs (stp zs (stp zs (stp zs (stp zs k)))))
  omega
theorem smz_in (zs : List Int) (k : Nat) : 8 ≤ smZ zs k ∧ smZ zs k ≤ 200 := by
  obtain ⟨⟨s1, s2⟩, ⟨b1, b2⟩, _, _, _, t1, t2⟩ := small_range zs k
  have h := slot_bounds s1 (show smS zs k ≤ 64 by omega) b1 (show smB zs k ≤ 128 by omega)
  unfold smZ
  omega
theorem split6 (k : Int) : k = 0 ∨ k = 1 ∨ k = 2 ∨ ((k == 0) = false ∧ (k == 1) = false ∧ (k == 2) = false) := by
  by_cases h0 : k = 0
  · exact .inl h0
  · by_cases h1 : k = 1
    · exact .inr (.inl h1)
    · by_cases h2 : k = 2
      · exact .inr (.inr (.inl h2))
      · exact .inr (.inr (.inr ⟨by simpa using h0, by simpa using h1, by simpa using h2⟩))
theorem pool_res {W W' : World} {X C q : Nat} {a : Option Addr} {n c : Nat} {h k : Int} {P : Po} (l : FList W' (Plus (fun b => (b ≠ X ∧ b ≠ C ∧ b ≠ q) ∧ b < W.heap.size) W.heap.size) a n c h k P) (hX : X < W.heap.size) (hC : C < W.heap.size) (hq : q < W.heap.size) : FList W' (fun b => b ≠ X ∧ b ≠ C ∧ b ≠ q) a n c h k P :=
  l.mono fun b _ h9 => by
    rcases h9 with h9 | h9
    · exact h9.1
    · exact ⟨by omega, by omega, by omega⟩
set_option maxHeartbeats 16000000 in
set_option maxRecDepth 20000 in
theorem poolSteps_any (H : PoolOk) (a0 : Option Addr) (l c0 : Nat) (zs : List Int) (bb : Int) (hbb : 0 ≤ bb ∧ bb ≤ 255) (w : World) (hl : IsRow .i64 w a0 l c0 zs) :
    Calls Try.prog 4 #[.slice a0 l c0, .int .u8 bb] w fun r w' => r = .returned (.bool true) ∧ Below w.heap.size w w' := by
  have HW := Lib.hid (fun W => poolAwake_any H W)
  have HLT := Lib.hid (fun W => light_any a0 l c0 W)
  have hb := Below.refl w.heap.size w
  by_cases hm : (l : Int) ≤ 300
  · rw [decide_eq_true hm] at HLT
    have HRL := Lib.hid (fun W (h : Below w.heap.size w W) => roll_any a0 l c0 zs W (isRow_up hl h) (by omega))
    unfold RollPost at HRL
    have HLL := Lib.hid (show (zs.take l).length ≤ 100000 from by rw [List.length_take]; omega)
    generalize zs.take l = LL at *
    clear hm hl hb
    go_enter Try.func4, Try.ntmps4
    go_wp2_with (first
      | (go_at_call 8; ((with_reducible refine (HLT.out _).mono ?_); rintro r9 w4 ⟨rfl, rfl⟩))
      | (go_at_call 9; ((with_reducible refine (HRL.out _ (Below.refl _ _)).mono ?_); rintro r9 w1 ⟨q, rfl, hd, h9⟩; have D := BxD.roll (Bxs.start w) hd h9; clear hd h9 HRL))
      | (go_at_call 10; ((with_reducible refine (small_any _ _ q LL 0 D.dd HLL.out).mono ?_); rintro r9 w2 ⟨rfl, hd2, gr2⟩; unfold confV; have hcz := smz_in LL 0; have hk0 := smk_up LL 0; generalize smZ LL 0 = cz at *; generalize smS LL 0 = cs at *; generalize smB LL 0 = cb at *; generalize smQ LL 0 = cq at *; generalize smD LL 0 = cd at *; generalize smH LL 0 = ch at *; generalize smK LL 0 = k0 at *; have hs2 : (w2.alloc (confRow cz cs cb cq cd ch)).heap.size = w2.heap.size + 1 := (by simp); have D1 := ((D.next hd2 gr2).al (confRow cz cs cb cq cd ch)).al (poRow none 0 0 (-1) (-1)); rw [hs2] at D1; clear D hd2 gr2 hs2; have D := D1; clear D1)))
    have hws : wrap64 (cz + 2) = cz + 2 := by unfold wrap64; omega
    have hws2 : IntKind.i64.wrap (cz + 2) = cz + 2 := IntWalk.i64_in _ (by omega)
    have hws3 : wrap64 (cz - 1) = cz - 1 := by unfold wrap64; omega
    have hws4 : IntKind.i64.wrap (cz - 1) = cz - 1 := IntWalk.i64_in _ (by omega)
    have hR : bb.tmod 4 = 0 ∨ bb.tmod 4 = 1 ∨ bb.tmod 4 = 2 ∨ bb.tmod 4 = 3 := by rw [Int.tmod_eq_emod_of_nonneg hbb.1]; omega
    generalize w2.heap.size + 1 = X at *
    generalize w2.heap.size = C at *
    have ll0 : FList _ (fun b => b ≠ X ∧ b ≠ C ∧ b ≠ q) none 0 0 (-1) (-1) ⟨[], -1, -1⟩ := ⟨rfl, rfl, IList.nil ((w2.alloc (confRow cz cs cb cq cd ch)).alloc (poRow none 0 0 (-1) (-1))) _⟩
    go_loopw [8] (fun x wr => ∃ (i k1 : Nat) (P : Po) (a : Option Addr) (n c : Nat) (h k : Int), x = .int .i64 (i : Int) ∧ i ≤ 50 ∧ k1 ≤ 6 + 4 * i ∧ n ≤ i ∧ BxD w wr [(X, poRow a n c h k), (C, confRow cz cs cb cq cd ch)] w.heap.size q LL k1 ∧ FList wr (fun b => b ≠ X ∧ b ≠ C ∧ b ≠ q) a n c h k P) (fun x _ => 50 - (intOf x).toNat)
    case atStart => exact ⟨0, k0, _, _, _, _, _, _, rfl, by omega, by omega, by omega, D, ll0⟩
    case round =>
      clear D ll0
      obtain ⟨i, k1, P, a, n, c, h, k, rfl, hi, hk, hn, D, ll⟩ := hrel
      by_cases hlt : i < 50
      · have hiI : (i : Int) < 50 := by omega
        by_cases hrs : 0 < (LL.length : Int) - (k1 : Int)
        · have t1 : decide (0 < max 0 ((LL.length : Int) - (k1 : Int))) = true := by simp; omega
          have t2 : max 0 ((LL.length : Int) - (k1 : Int)) = (LL.length : Int) - (k1 : Int) := by omega
          have hlen := ll.f.length
          have u1 := stp_up LL k1
          go_wp2_with (first
            | (go_at_call 11; ((with_reducible refine (rest_dice _ _ _ _ _ D.dd HLL.out (by omega)).mono ?_); rintro r9 w9 ⟨rfl, rfl⟩; have D9 := D.drew; have ll9 := ll.on (w' := wr.drew) ⟨Nat.le_refl _, fun _ _ _ => rfl⟩; clear D ll; have D := D9; have ll := ll9; clear D9 ll9; obtain ⟨d0, d1, d2, d3, d4, d5⟩ := six_row (D.get 1 rfl)))
            | (go_at_call 12; ((with_reducible refine (next_any _ _ _ _ _ (cz + 2) D.dd HLL.out (by omega) (by omega)).mono ?_); rintro r9 w9 ⟨rfl, hd, hgr, hsz⟩; have D9 := D.next hd hgr; have ll9 := ll.on (w' := w9) ⟨hgr.size, fun b hb hlt => hgr.block b hlt (fun e => hb.2.2 (Option.some.inj e))⟩; clear D ll hd hgr hsz; have D := D9; have ll := ll9; clear D9 ll9; generalize hnx : nxt LL _ (cz + 2) = zz at *; )))
          clear d0 d1 d2 d3 d4 d5
          refine Plan.start (fun W => (W.cell? ⟨X, 0, none⟩ = some (.slice a n c) ∧ W.cell? ⟨X, 1, none⟩ = some (.int .i64 h) ∧ W.cell? ⟨X, 2, none⟩ = some (.int .i64 k)) ∧ (W.cell? ⟨C, 0, none⟩ = some (.int .i64 cz) ∧ W.cell? ⟨C, 1, none⟩ = some (.int .i64 cs) ∧ W.cell? ⟨C, 2, none⟩ = some (.int .i64 cb) ∧ W.cell? ⟨C, 3, none⟩ = some (.int .i64 cq) ∧ W.cell? ⟨C, 4, none⟩ = some (.int .i64 cd) ∧ W.cell? ⟨C, 5, none⟩ = some (.int .i64 ch))) [(0, true), (1, true), (2, true), (3, true), (4, false), (5, true), (6, false), (7, true)] (by kernel_rfl) (by kernel_rfl) (by kernel_rfl) (by kernel_rfl) (show _ from ⟨three_row (D.drew.get 0 rfl), six_row (D.drew.get 1 rfl)⟩) ?_
          simp only [List.map_cons, List.map_nil, List.getElem?_toArray, List.getElem?_cons_zero, List.getElem?_cons_succ]
          repeat (first | (refine Plan.take ?_ (by rfl) ?_ ?_; rotate_left; (· rintro w9 ⟨⟨x0, x1, x2⟩, d0, d1, d2, d3, d4, d5⟩; go_simp; (try rw [if_neg (by omega)]); all_goals (with_reducible rfl)); simp only [Act.put, List.setIfInBounds_toArray, List.set_cons_zero, List.set_cons_succ]) | (refine Plan.pass (by rfl) ?_; simp only [Act.put, List.setIfInBounds_toArray, List.set_cons_zero, List.set_cons_succ]))
          have D9 := D.drew
          have ll9 := ll.on (w' := w9.drew) ⟨Nat.le_refl _, fun _ _ _ => rfl⟩
          clear D ll
          have D := D9
          have ll := ll9
          clear D9 ll9
          refine Plan.call (by rfl) 12 _ ?_ (next_any _ _ _ _ _ 2 D.dd HLL.out (by omega) (by omega)) ?_
          · go_simp
          rintro r9 w9 ⟨rfl, hd, hgr, hsz⟩
          have D9 := D.next hd hgr
          have ll9 := ll.on (w' := w9) ⟨hgr.size, fun b hb hlt => hgr.block b hlt (fun e => hb.2.2 (Option.some.inj e))⟩
          clear D ll hd hgr hsz
          have D := D9
          have ll := ll9
          clear D9 ll9
          generalize nxt LL _ 2 = k2 at *
          refine ⟨_, rfl, ⟨three_row (D.get 0 rfl), six_row (D.get 1 rfl)⟩, ?_⟩
          simp only [Act.put, List.setIfInBounds_toArray, List.set_cons_zero, List.set_cons_succ]
          repeat (first | (refine Plan.take ?_ (by rfl) ?_ ?_; rotate_left; (· rintro w9 ⟨⟨x0, x1, x2⟩, d0, d1, d2, d3, d4, d5⟩; go_simp; (try rw [if_neg (by omega)]); all_goals (with_reducible rfl)); simp only [Act.put, List.setIfInBounds_toArray, List.set_cons_zero, List.set_cons_succ]) | (refine Plan.pass (by rfl) ?_; simp only [Act.put, List.setIfInBounds_toArray, List.set_cons_zero, List.set_cons_succ]))
          refine Plan.call (by rfl) 6 _ ?_ (poolAgree_any H _ P cz cs cb cq cd ch zz (k2 == 0) a n c h k _ ll (by omega)) ?_
          · go_simp
            rfl
          rintro r9 w5 ⟨rfl, h9⟩
          have D9 := D.on h9
          have ll9 := ll.on (Same.below h9)
          clear D ll h9
          have D := D9
          have ll := ll9
          clear D9 ll9
          refine ⟨_, rfl, ⟨three_row (D.get 0 rfl), six_row (D.get 1 rfl)⟩, ?_⟩
          simp only [Act.put, List.setIfInBounds_toArray, List.set_cons_zero, List.set_cons_succ]
          repeat (first | (refine Plan.take ?_ (by rfl) ?_ ?_; rotate_left; (· rintro w9 ⟨⟨x0, x1, x2⟩, d0, d1, d2, d3, d4, d5⟩; go_simp; (try rw [if_neg (by omega)]); all_goals (with_reducible rfl)); simp only [Act.put, List.setIfInBounds_toArray, List.set_cons_zero, List.set_cons_succ]) | (refine Plan.pass (by rfl) ?_; simp only [Act.put, List.setIfInBounds_toArray, List.set_cons_zero, List.set_cons_succ]))
          refine Plan.ends ?_
          go_wp2_with (first
            | (go_at_call 12; ((with_reducible refine (next_any _ _ _ _ _ (6) D.dd HLL.out (by omega) (by omega)).mono ?_); rintro r9 w9 ⟨rfl, hd, hgr, hsz⟩; have D9 := D.next hd hgr; have ll9 := ll.on (w' := w9) ⟨hgr.size, fun b hb hlt => hgr.block b hlt (fun e => hb.2.2 (Option.some.inj e))⟩; clear D ll hd hgr hsz; have D := D9; have ll := ll9; clear D9 ll9; generalize hnx : nxt LL _ (6) = k6 at *; clear hnx; rcases split6 k6 with rfl | rfl | rfl | ⟨b1, b2, b3⟩))
            | ((with_reducible refine Plan.load_lit 24 (.tmp 7) (X) ?_ (D.get 0 rfl) Try.underlying24 ?_ ?_ ?_); (· rfl); (· rfl); (· exact po_info); simp only [Act.put, List.setIfInBounds_toArray, List.set_cons_zero, List.set_cons_succ])
            | ((with_reducible refine Plan.load_lit 26 (.tmp 6) (C) ?_ (D.get 1 rfl) Try.underlying26 ?_ ?_ ?_); (· rfl); (· rfl); (· exact conf_info); simp only [Act.put, List.setIfInBounds_toArray, List.set_cons_zero, List.set_cons_succ])
            | (go_at_call 13; (have H1 := refHost_any _ P cz cs cb cq cd ch a n c h k _ ll.cut (by omega); unfold confV at H1; (with_reducible refine H1.mono ?_); clear H1; rintro r9 w6 ⟨xa, xn, xc, xh, xk, rfl, lx, h9⟩; have l5 := pool_res lx (e_lt (D.get 0 rfl)) (e_lt (D.get 1 rfl)) (dice_lt D.dd); have D9 := D.on h9; clear D lx h9 ll; have D := D9; clear D9))
            | (go_at_call 14; (have H1 := refCleaner_any _ P cz cs cb cq cd ch a n c h k _ ll.cut (by omega); unfold confV at H1; (with_reducible refine H1.mono ?_); clear H1; rintro r9 w6 ⟨xa, xn, xc, xh, xk, rfl, lx, h9⟩; have l5 := pool_res lx (e_lt (D.get 0 rfl)) (e_lt (D.get 1 rfl)) (dice_lt D.dd); have D9 := D.on h9; clear D lx h9 ll; have D := D9; clear D9))
            | (go_at_call 16; (have H1 := refPoPut_any _ P cz cs cb cq cd ch zz a n c h k _ ll.cut (by omega); unfold confV at H1; (with_reducible refine H1.mono ?_); clear H1; rintro r9 w6 ⟨xa, xn, xc, xh, xk, rfl, lx, h9⟩; have l5 := pool_res lx (e_lt (D.get 0 rfl)) (e_lt (D.get 1 rfl)) (dice_lt D.dd); have D9 := D.on h9; clear D lx h9 ll; have D := D9; clear D9))
            | ((with_reducible refine Plan.store_lit 24 (.tmp 7) _ X ?_ (D.get 0 rfl) ?_ ?_ ?_ ?_ ?_ ?_); rotate_left; (· rfl); (· rfl); (· exact po_info); (· rfl); (· simp [Value.oneCell']); simp only [Act.put]; have D9 := D.put 0 rfl (B' := [(X, poRow xa xn xc xh xk), (C, confRow cz cs cb cq cd ch)]) rfl; have l6 := l5.on (Same.row (r := X) (fun h => h.1 rfl) #[.slice xa xn xc, .int .i64 xh, .int .i64 xk]); generalize w6.setRow X #[.slice xa xn xc, .int .i64 xh, .int .i64 xk] = w7 at *; clear D l5; have D := D9; have ll := l6; clear D9 l6))
          rotate_left 2
          · refine Tree.start (fun W => W.cell? ⟨C, 0, none⟩ = some (.int .i64 cz) ∧ W.cell? ⟨C, 1, none⟩ = some (.int .i64 cs) ∧ W.cell? ⟨C, 2, none⟩ = some (.int .i64 cb) ∧ W.cell? ⟨C, 3, none⟩ = some (.int .i64 cq) ∧ W.cell? ⟨C, 4, none⟩ = some (.int .i64 cd) ∧ W.cell? ⟨C, 5, none⟩ = some (.int .i64 ch)) (.take 1 (.take 2 (.fork 0 (.only 3 (.take 4 (.only 5 (.take 6 (.take 7 (.take 8 (.only 9 .done))))))) 3 (.take 4 (.only 0 (.only 5 (.take 6 (.take 7 (.take 8 (.only 9 .done)))))))))) (by kernel_rfl) (by kernel_rfl) (by kernel_rfl) (by kernel_rfl) (six_row (D.drew.get 1 rfl)) ?_
            simp only [Tree.T.map, List.getElem?_toArray, List.getElem?_cons_zero, List.getElem?_cons_succ]
            repeat (first | (refine Tree.take ?_ (by rfl) ?_ ?_; rotate_left; (· rintro w9 ⟨d0, d1, d2, d3, d4, d5⟩; go_simp; (try rw [if_neg (by omega)]); all_goals (with_reducible rfl)); simp only [Act.put, List.setIfInBounds_toArray, List.set_cons_zero, List.set_cons_succ]))
            have D9 := D.drew
            have ll9 := ll.on (w' := w9.drew) ⟨Nat.le_refl _, fun _ _ _ => rfl⟩
            clear D ll
            have D := D9
            have ll := ll9
            clear D9 ll9
            refine Tree.fork (by rfl) (by rfl) ?_ ?_
            · obtain ⟨x0, x1, x2⟩ := three_row (D.get 0 rfl)
              refine Tree.wp_make (poV a n c h k) _ ?_ ⟨six_row (D.get 1 rfl), ?_⟩
              · go_simp
              clear x0 x1 x2
              simp only [Act.put, List.setIfInBounds_toArray, List.set_cons_zero, List.set_cons_succ]
              refine Tree.only (by rfl) (Tree.wp_call 12 _ ?_ (next_any _ _ _ _ _ 2 D.dd HLL.out (by omega) (by omega)) ?_)
              · go_simp
              rintro r9 w9 ⟨rfl, hd, hgr, hsz⟩
              have D9 := D.next hd hgr
              have ll9 := ll.on (w' := w9) ⟨hgr.size, fun b hb hlt => hgr.block b hlt (fun e => hb.2.2 (Option.some.inj e))⟩
              clear D ll hd hgr hsz
              have D := D9
              have ll := ll9
              clear D9 ll9
              generalize nxt LL _ 2 = k8 at *
              refine ⟨_, rfl, six_row (D.get 1 rfl), ?_⟩
              simp only [Act.put, List.setIfInBounds_toArray, List.set_cons_zero, List.set_cons_succ]
              repeat (first | (refine Tree.take ?_ (by rfl) ?_ ?_; rotate_left; (· rintro w9 ⟨d0, d1, d2, d3, d4, d5⟩; go_simp; (try rw [if_neg (by omega)]); all_goals (with_reducible rfl)); simp only [Act.put, List.setIfInBounds_toArray, List.set_cons_zero, List.set_cons_succ]))
              refine Tree.only (by rfl) (Tree.wp_call 15 _ ?_ (refLeave_any _ P cz cs cb cq cd ch (k8 == 0) a n c h k _ ll.cut) ?_)
              · go_simp
                rfl
              rintro r9 w6 ⟨xa, xn, xc, xh, xk, rfl, lx, h9⟩
              have l5 := pool_res lx (e_lt (D.get 0 rfl)) (e_lt (D.get 1 rfl)) (dice_lt D.dd)
              have D9 := D.on h9
              clear D lx h9 ll
              have D := D9
              clear D9
              refine ⟨_, rfl, six_row (D.get 1 rfl), ?_⟩
              simp only [Act.put, List.setIfInBounds_toArray, List.set_cons_zero, List.set_cons_succ]
              repeat (first | (refine Tree.take ?_ (by rfl) ?_ ?_; rotate_left; (· rintro w9 ⟨d0, d1, d2, d3, d4, d5⟩; go_simp; (try rw [if_neg (by omega)]); all_goals (with_reducible rfl)); simp only [Act.put, List.setIfInBounds_toArray, List.set_cons_zero, List.set_cons_succ]))
              refine Tree.only (by rfl) (wp_store_row 24 _ _ rfl X #[.slice xa xn xc, .int .i64 xh, .int .i64 xk] (by rfl) (by rfl) 24 _ (D.get 0 rfl) po_info rfl (by simp [Value.oneCell']) ?_)
              have D9 := D.put 0 rfl (B' := [(X, poRow xa xn xc xh xk), (C, confRow cz cs cb cq cd ch)]) rfl
              have l6 := l5.on (Same.row (r := X) (fun h => h.1 rfl) #[.slice xa xn xc, .int .i64 xh, .int .i64 xk])
              generalize w6.setRow X #[.slice xa xn xc, .int .i64 xh, .int .i64 xk] = w7 at *
              clear D l5
              have D := D9
              have ll := l6
              clear D9 l6
              refine ⟨six_row (D.get 1 rfl), ?_⟩
              simp only [Act.put]
              refine Tree.ends ?_
              go_wp2_with fail
              have v4 := leave_len (decide (errN cz cs cb cq cd ch = 0)) (isN cz cs cb cq cd ch) P (k8 == 0)
              have v5 := ll.f.length
              have u2 := stp_up LL (stp LL k1)
              have u3 := stp_up LL (stp LL (stp LL k1))
              have u4 := stp_up LL (stp LL (stp LL (stp LL k1)))
              go_roundw
              case rel => exact ⟨i + 1, _, _, _, _, _, _, _, by go_num, by omega, by omega, by omega, D, ll⟩
              case measure => simp [intOf]; omega
            · refine Tree.wp_call 12 _ ?_ (next_any _ _ _ _ _ 2 D.dd HLL.out (by omega) (by omega)) ?_
              · go_simp
              rintro r9 w9 ⟨rfl, hd, hgr, hsz⟩
              have D9 := D.next hd hgr
              have ll9 := ll.on (w' := w9) ⟨hgr.size, fun b hb hlt => hgr.block b hlt (fun e => hb.2.2 (Option.some.inj e))⟩
              clear D ll hd hgr hsz
              have D := D9
              have ll := ll9
              clear D9 ll9
              generalize nxt LL _ 2 = k8 at *
              refine ⟨_, rfl, six_row (D.get 1 rfl), ?_⟩
              simp only [Act.put, List.setIfInBounds_toArray, List.set_cons_zero, List.set_cons_succ]
              repeat (first | (refine Tree.take ?_ (by rfl) ?_ ?_; rotate_left; (· rintro w9 ⟨d0, d1, d2, d3, d4, d5⟩; go_simp; (try rw [if_neg (by omega)]); all_goals (with_reducible rfl)); simp only [Act.put, List.setIfInBounds_toArray, List.set_cons_zero, List.set_cons_succ]))
              obtain ⟨x0, x1, x2⟩ := three_row (D.get 0 rfl)
              refine Tree.only (by rfl) (Tree.wp_make (poV a n c h k) _ ?_ ⟨six_row (D.get 1 rfl), ?_⟩)
              · go_simp
              clear x0 x1 x2
              simp only [Act.put, List.setIfInBounds_toArray, List.set_cons_zero, List.set_cons_succ]
              repeat (first | (refine Tree.take ?_ (by rfl) ?_ ?_; rotate_left; (· rintro w9 ⟨d0, d1, d2, d3, d4, d5⟩; go_simp; (try rw [if_neg (by omega)]); all_goals (with_reducible rfl)); simp only [Act.put, List.setIfInBounds_toArray, List.set_cons_zero, List.set_cons_succ]))
              refine Tree.only (by rfl) (Tree.wp_call 15 _ ?_ (refLeave_any _ P cz cs cb cq cd ch (k8 == 0) a n c h k _ ll.cut) ?_)
              · go_simp
                rfl
              rintro r9 w6 ⟨xa, xn, xc, xh, xk, rfl, lx, h9⟩
              have l5 := pool_res lx (e_lt (D.get 0 rfl)) (e_lt (D.get 1 rfl)) (dice_lt D.dd)
              have D9 := D.on h9
              clear D lx h9 ll
              have D := D9
              clear D9
              refine ⟨_, rfl, six_row (D.get 1 rfl), ?_⟩
              simp only [Act.put, List.setIfInBounds_toArray, List.set_cons_zero, List.set_cons_succ]
              repeat (first | (refine Tree.take ?_ (by rfl) ?_ ?_; rotate_left; (· rintro w9 ⟨d0, d1, d2, d3, d4, d5⟩; go_simp; (try rw [if_neg (by omega)]); all_goals (with_reducible rfl)); simp only [Act.put, List.setIfInBounds_toArray, List.set_cons_zero, List.set_cons_succ]))
              refine Tree.only (by rfl) (wp_store_row 24 _ _ rfl X #[.slice xa xn xc, .int .i64 xh, .int .i64 xk] (by rfl) (by rfl) 24 _ (D.get 0 rfl) po_info rfl (by simp [Value.oneCell']) ?_)
              have D9 := D.put 0 rfl (B' := [(X, poRow xa xn xc xh xk), (C, confRow cz cs cb cq cd ch)]) rfl
              have l6 := l5.on (Same.row (r := X) (fun h => h.1 rfl) #[.slice xa xn xc, .int .i64 xh, .int .i64 xk])
              generalize w6.setRow X #[.slice xa xn xc, .int .i64 xh, .int .i64 xk] = w7 at *
              clear D l5
              have D := D9
              have ll := l6
              clear D9 l6
              refine ⟨six_row (D.get 1 rfl), ?_⟩
              simp only [Act.put]
              refine Tree.ends ?_
              go_wp2_with fail
              have v4 := leave_len (decide (errN cz cs cb cq cd ch = 0)) (isN cz cs cb cq cd ch) P (k8 == 0)
              have v5 := ll.f.length
              have u2 := stp_up LL (stp LL k1)
              have u3 := stp_up LL (stp LL (stp LL k1))
              have u4 := stp_up LL (stp LL (stp LL (stp LL k1)))
              go_roundw
              case rel => exact ⟨i + 1, _, _, _, _, _, _, _, by go_num, by omega, by omega, by omega, D, ll⟩
              case measure => simp [intOf]; omega
          all_goals
            have v1 := host_len (decide (errN cz cs cb cq cd ch = 0)) (isN cz cs cb cq cd ch) P
            have v2 := clean_len (decide (errN cz cs cb cq cd ch = 0)) (isN cz cs cb cq cd ch) P
            have v3 := put_len (decide (errN cz cs cb cq cd ch = 0)) (isN cz cs cb cq cd ch) P zz
            have v5 := ll.f.length
            have u2 := stp_up LL (stp LL k1)
            have u3 := stp_up LL (stp LL (stp LL k1))
            have u4 := stp_up LL (stp LL (stp LL (stp LL k1)))
            go_roundw
            case rel => exact ⟨i + 1, _, _, _, _, _, _, _, by go_num, by omega, by omega, by omega, D, ll⟩
            case measure => simp [intOf]; omega
        · have t1 : decide (0 < max 0 ((LL.length : Int) - (k1 : Int))) = false := by simp; omega
          have t2 : max 0 ((LL.length : Int) - (k1 : Int)) = 0 := by omega
          clear hws hws2
          rcases hR with e0 | e0 | e0 | e0
          · go_wp2_with (first
              | (go_at_call 11; ((with_reducible refine (rest_dice _ _ _ _ _ D.dd HLL.out (by omega)).mono ?_); rintro r9 w9 ⟨rfl, rfl⟩; have D9 := D.drew; have ll9 := ll.on (w' := wr.drew) ⟨Nat.le_refl _, fun _ _ _ => rfl⟩; clear D ll; have D := D9; have ll := ll9; clear D9 ll9; generalize wr.drew = wz at *; obtain ⟨d0, d1, d2, d3, d4, d5⟩ := six_row (D.get 1 rfl); obtain ⟨x0, x1, x2⟩ := three_row (D.get 0 rfl)))
              | ((with_reducible refine store_int_c 3 (.tmp 83) (.tmp 82) X 1 .i64 k ?_ ?_ ⟨_, x1⟩ (free_row_c (D.get 0 rfl)) Put.int_info1 ?_); (· rfl); (· rfl); simp only [Act.put]; rw [setCell_eq_setRow _ _ _ _ _ _ _ (D.get 0 rfl)]; simp only [List.setIfInBounds_toArray, List.set_cons_zero, List.set_cons_succ]; have D9 := D.put 0 rfl (B' := [(X, poRow a n c k k), (C, confRow cz cs cb cq cd ch)]) rfl; have l9 : FList _ _ a n c k k ⟨P.free, k, k⟩ := ⟨rfl, rfl, ll.f.on (Same.row (r := X) (fun h => h.1 rfl) #[.slice a n c, .int .i64 k, .int .i64 k])⟩; generalize wz.setRow X #[.slice a n c, .int .i64 k, .int .i64 k] = w7 at *; clear D ll x0 x1 x2; have D := D9; have ll := l9; clear D9 l9)
              | (go_at_call 6; (have H1 := poolAgree_any H _ _ cz cs cb cq cd ch 5 true a n c k k _ ll (by omega); unfold confV at H1; (with_reducible refine H1.mono ?_); clear H1; rintro r9 w5 ⟨rfl, h9⟩; have D9 := D.on h9; clear D h9 ll; have D := D9; clear D9))
              | ((with_reducible refine Plan.load_lit 24 (.tmp 7) (X) ?_ (D.get 0 rfl) Try.underlying24 ?_ ?_ ?_); (· rfl); (· rfl); (· exact po_info); simp only [Act.put, List.setIfInBounds_toArray, List.set_cons_zero, List.set_cons_succ])
              | ((with_reducible refine Plan.load_lit 26 (.tmp 6) (C) ?_ (D.get 1 rfl) Try.underlying26 ?_ ?_ ?_); (· rfl); (· rfl); (· exact conf_info); simp only [Act.put, List.setIfInBounds_toArray, List.set_cons_zero, List.set_cons_succ])
              | (go_at_call 7; ((with_reducible refine (HW.out _).mono ?_); rintro r9 w6 ⟨rfl, h9⟩; have D9 := D.on h9; clear D h9; have D := D9; clear D9)))
            go_ret
            exact ⟨rfl, D.hb⟩
          · go_wp2_with (first
              | (go_at_call 11; ((with_reducible refine (rest_dice _ _ _ _ _ D.dd HLL.out (by omega)).mono ?_); rintro r9 w9 ⟨rfl, rfl⟩; have D9 := D.drew; have ll9 := ll.on (w' := wr.drew) ⟨Nat.le_refl _, fun _ _ _ => rfl⟩; clear D ll; have D := D9; have ll := ll9; clear D9 ll9; generalize wr.drew = wz at *; obtain ⟨d0, d1, d2, d3, d4, d5⟩ := six_row (D.get 1 rfl); obtain ⟨x0, x1, x2⟩ := three_row (D.get 0 rfl); have O2 := Lib.hid (ints_empty (wz) (H := (wz).heap.size) rfl); have hq0 := dice_lt D.dd; have hB0 := Lib.hid (fun x hx => D.bx.lt (x := x) hx); have K2 := D.al' (.cells #[] 3); have HLa := Lib.hid (ll.f.on (Same.alloc (wz) (.cells #[] 3))); obtain ⟨y0, y1, y2⟩ := three_row (K2.get 0 rfl)))
              | (at_builtin; refine append_ints rfl (.tmp 86) (.tmp 88) rfl (wz).heap.size _ 0 [] rfl O2.out _ _ _ P.free rfl HLa.out (by omega) (by simp) ?_; intro v9 w9 own9 gr9; rw [Nat.zero_add, List.nil_append] at own9; have K9 := K2.grown gr9 (fun z hz => by have h8 : (wz).heap.size = z := Option.some.inj hz; subst h8; exact ⟨hq0, fun x hx => Nat.ne_of_lt (hB0.out x hx)⟩); have hs9 := gr9.size; rw [World.size_alloc] at hs9; clear K2 x0 x1 x2 y0 y1 y2 O2 gr9 D ll HLa; have own8 := e_owns_on own9 ((Below.refl _ _).alloc (Nat.le_refl _) (.cells #[.int .i64 0] 3 (0, 0))); have K2 := K9.al' (.cells #[.int .i64 0] 3 (0, 0)); have hbk9 := Lib.hid (fun b hb => (own9.lt b hb).1); clear K9 own9; obtain ⟨x0, x1, x2⟩ := three_row (K2.get 0 rfl))
              | (at_builtin; refine append_int rfl (.tmp 89) (.tmp 90) rfl (wz).heap.size v9 n P.free rfl own8 w9.heap.size 0 rfl (heap_alloc_new w9 (.cells #[.int .i64 0] 3 (0, 0))) (by omega) (by rw [World.size_alloc]; omega) ?_; intro g10 k10 w10 own10 gr10 at10; have D := K2.grown gr10 (fun z hz => by have h8 := hbk9.out z hz; exact ⟨by omega, fun x hx => Nat.ne_of_lt (Nat.lt_of_lt_of_le (hB0.out x hx) h8)⟩); have l10 : IList w10 (fun b => (wz).heap.size ≤ b) (some ⟨g10, 0, none⟩) (n + 1) k10 (P.free ++ [0]) := (by obtain ⟨a9, c9, e9, l9⟩ := own_ilist (F := fun b => (wz).heap.size ≤ b) own10 (fun b hb => (own10.lt b hb).1); cases e9; exact l9); clear K2 x0 x1 x2 gr10 at10 own10 own8 hbk9; obtain ⟨x0, x1, x2⟩ := three_row (D.get 0 rfl))
              | ((with_reducible refine store_slice_c 22 (.tmp 92) (.tmp 91) X 0 (some ⟨g10, 0, none⟩) (n + 1) k10 ?_ ?_ ⟨_, x0⟩ (free_row_c (D.get 0 rfl)) ints_info1 ?_); (· rfl); (· rfl); simp only [Act.put]; rw [setCell_eq_setRow _ _ _ _ _ _ _ (D.get 0 rfl)]; simp only [List.setIfInBounds_toArray, List.set_cons_zero]; have hXl := hB0.out (X, poRow a n c h k) (.head _); have D9 := D.put 0 rfl (B' := [(X, poRow (some ⟨g10, 0, none⟩) (n + 1) k10 h k), (C, confRow cz cs cb cq cd ch)]) rfl; have ll : FList _ _ (some ⟨g10, 0, none⟩) (n + 1) k10 h k ⟨P.free ++ [0], h, k⟩ := ⟨rfl, rfl, l10.on (Same.row (r := X) (fun h => by have h8 : (wz).heap.size ≤ X := h; have h9 : X < (wz).heap.size := hXl; omega) #[.slice (some ⟨g10, 0, none⟩) (n + 1) k10, .int .i64 h, .int .i64 k])⟩; generalize w10.setRow X #[.slice (some ⟨g10, 0, none⟩) (n + 1) k10, .int .i64 h, .int .i64 k] = w7 at *; clear D l10 x0 x1 x2 hXl hB0; have D := D9; clear D9)
              | (go_at_call 6; (have H1 := poolAgree_any H _ _ cz cs cb cq cd ch 5 true (some ⟨g10, 0, none⟩) (n + 1) k10 h k _ ll (by omega); unfold confV at H1; (with_reducible refine H1.mono ?_); clear H1; rintro r9 w5 ⟨rfl, h9⟩; have D9 := D.on h9; clear D h9 ll; have D := D9; clear D9))
              | ((with_reducible refine Plan.load_lit 24 (.tmp 7) (X) ?_ (D.get 0 rfl) Try.underlying24 ?_ ?_ ?_); (· rfl); (· rfl); (· exact po_info); simp only [Act.put, List.setIfInBounds_toArray, List.set_cons_zero, List.set_cons_succ])
              | ((with_reducible refine Plan.load_lit 26 (.tmp 6) (C) ?_ (D.get 1 rfl) Try.underlying26 ?_ ?_ ?_); (· rfl); (· rfl); (· exact conf_info); simp only [Act.put, List.setIfInBounds_toArray, List.set_cons_zero, List.set_cons_succ])
              | (go_at_call 7; ((with_reducible refine (HW.out _).mono ?_); rintro r9 w6 ⟨rfl, h9⟩; have D9 := D.on h9; clear D h9; have D := D9; clear D9)))
            go_ret
            exact ⟨rfl, D.hb⟩
          · go_wp2_with (first
              | (go_at_call 11; ((with_reducible refine (rest_dice _ _ _ _ _ D.dd HLL.out (by omega)).mono ?_); rintro r9 w9 ⟨rfl, rfl⟩; have D9 := D.drew; have ll9 := ll.on (w' := wr.drew) ⟨Nat.le_refl _, fun _ _ _ => rfl⟩; clear D ll; have D := D9; have ll := ll9; clear D9 ll9; generalize wr.drew = wz at *; obtain ⟨d0, d1, d2, d3, d4, d5⟩ := six_row (D.get 1 rfl); obtain ⟨x0, x1, x2⟩ := three_row (D.get 0 rfl)))
              | ((with_reducible refine store_int_c 3 (.tmp 98) (.tmp 97) C 0 .i64 (cz - 1) ?_ ?_ ⟨_, d0⟩ (free_row_c (D.get 1 rfl)) Put.int_info1 ?_); (· rfl); (· rfl); simp only [Act.put]; rw [setCell_eq_setRow _ _ _ _ _ _ _ (D.get 1 rfl)]; simp only [List.setIfInBounds_toArray, List.set_cons_zero]; have D9 := D.put 1 rfl (B' := [(X, poRow a n c h k), (C, confRow (cz - 1) cs cb cq cd ch)]) rfl; have l9 := ll.on (Same.row (r := C) (fun h => h.2.1 rfl) #[.int .i64 (cz - 1), .int .i64 cs, .int .i64 cb, .int .i64 cq, .int .i64 cd, .int .i64 ch]); generalize wz.setRow C #[.int .i64 (cz - 1), .int .i64 cs, .int .i64 cb, .int .i64 cq, .int .i64 cd, .int .i64 ch] = w7 at *; clear D ll x0 x1 x2 d0 d1 d2 d3 d4 d5; have D := D9; have ll := l9; clear D9 l9)
              | (go_at_call 6; (have H1 := poolAgree_any H _ _ (cz - 1) cs cb cq cd ch 5 true a n c h k _ ll (by omega); unfold confV at H1; (with_reducible refine H1.mono ?_); clear H1; rintro r9 w5 ⟨rfl, h9⟩; have D9 := D.on h9; clear D h9 ll; have D := D9; clear D9))
              | ((with_reducible refine Plan.load_lit 24 (.tmp 7) (X) ?_ (D.get 0 rfl) Try.underlying24 ?_ ?_ ?_); (· rfl); (· rfl); (· exact po_info); simp only [Act.put, List.setIfInBounds_toArray, List.set_cons_zero, List.set_cons_succ])
              | ((with_reducible refine Plan.load_lit 26 (.tmp 6) (C) ?_ (D.get 1 rfl) Try.underlying26 ?_ ?_ ?_); (· rfl); (· rfl); (· exact conf_info); simp only [Act.put, List.setIfInBounds_toArray, List.set_cons_zero, List.set_cons_succ])
              | (go_at_call 7; ((with_reducible refine (HW.out _).mono ?_); rintro r9 w6 ⟨rfl, h9⟩; have D9 := D.on h9; clear D h9; have D := D9; clear D9)))
            go_ret
            exact ⟨rfl, D.hb⟩
          · go_wp2_with (first
              | (go_at_call 11; ((with_reducible refine (rest_dice _ _ _ _ _ D.dd HLL.out (by omega)).mono ?_); rintro r9 w9 ⟨rfl, rfl⟩; have D9 := D.drew; have ll9 := ll.on (w' := wr.drew) ⟨Nat.le_refl _, fun _ _ _ => rfl⟩; clear D ll; have D := D9; have ll := ll9; clear D9 ll9; generalize wr.drew = wz at *; obtain ⟨d0, d1, d2, d3, d4, d5⟩ := six_row (D.get 1 rfl); obtain ⟨x0, x1, x2⟩ := three_row (D.get 0 rfl)))
              | (go_at_call 6; (have H1 := poolAgree_any H _ _ cz cs cb cq cd ch 5 true a n c h k _ ll (by omega); unfold confV at H1; (with_reducible refine H1.mono ?_); clear H1; rintro r9 w5 ⟨rfl, h9⟩; have D9 := D.on h9; clear D h9 ll; have D := D9; clear D9))
              | ((with_reducible refine Plan.load_lit 24 (.tmp 7) (X) ?_ (D.get 0 rfl) Try.underlying24 ?_ ?_ ?_); (· rfl); (· rfl); (· exact po_info); simp only [Act.put, List.setIfInBounds_toArray, List.set_cons_zero, List.set_cons_succ])
              | ((with_reducible refine Plan.load_lit 26 (.tmp 6) (C) ?_ (D.get 1 rfl) Try.underlying26 ?_ ?_ ?_); (· rfl); (· rfl); (· exact conf_info); simp only [Act.put, List.setIfInBounds_toArray, List.set_cons_zero, List.set_cons_succ])
              | (go_at_call 7; ((with_reducible refine (HW.out _).mono ?_); rintro r9 w6 ⟨rfl, h9⟩; have D9 := D.on h9; clear D h9; have D := D9; clear D9)))
            go_ret
            exact ⟨rfl, D.hb⟩
      · obtain rfl : i = 50 := by omega
        have hiI : ¬ ((50 : Nat) : Int) < 50 := by omega
        clear hws hws2
        obtain ⟨x0, x1, x2⟩ := three_row (D.get 0 rfl)
        obtain ⟨d0, d1, d2, d3, d4, d5⟩ := six_row (D.get 1 rfl)
        rcases hR with e0 | e0 | e0 | e0
        · go_wp2_with (first
            | ((with_reducible refine store_int_c 3 (.tmp 83) (.tmp 82) X 1 .i64 k ?_ ?_ ⟨_, x1⟩ (free_row_c (D.get 0 rfl)) Put.int_info1 ?_); (· rfl); (· rfl); simp only [Act.put]; rw [setCell_eq_setRow _ _ _ _ _ _ _ (D.get 0 rfl)]; simp only [List.setIfInBounds_toArray, List.set_cons_zero, List.set_cons_succ]; have D9 := D.put 0 rfl (B' := [(X, poRow a n c k k), (C, confRow cz cs cb cq cd ch)]) rfl; have l9 : FList _ _ a n c k k ⟨P.free, k, k⟩ := ⟨rfl, rfl, ll.f.on (Same.row (r := X) (fun h => h.1 rfl) #[.slice a n c, .int .i64 k, .int .i64 k])⟩; generalize wr.setRow X #[.slice a n c, .int .i64 k, .int .i64 k] = w7 at *; clear D ll x0 x1 x2; have D := D9; have ll := l9; clear D9 l9)
            | (go_at_call 6; (have H1 := poolAgree_any H _ _ cz cs cb cq cd ch 5 true a n c k k _ ll (by omega); unfold confV at H1; (with_reducible refine H1.mono ?_); clear H1; rintro r9 w5 ⟨rfl, h9⟩; have D9 := D.on h9; clear D h9 ll; have D := D9; clear D9))
            | ((with_reducible refine Plan.load_lit 24 (.tmp 7) (X) ?_ (D.get 0 rfl) Try.underlying24 ?_ ?_ ?_); (· rfl); (· rfl); (· exact po_info); simp only [Act.put, List.setIfInBounds_toArray, List.set_cons_zero, List.set_cons_succ])
            | ((with_reducible refine Plan.load_lit 26 (.tmp 6) (C) ?_ (D.get 1 rfl) Try.underlying26 ?_ ?_ ?_); (· rfl); (· rfl); (· exact conf_info); simp only [Act.put, List.setIfInBounds_toArray, List.set_cons_zero, List.set_cons_succ])
            | (go_at_call 7; ((with_reducible refine (HW.out _).mono ?_); rintro r9 w6 ⟨rfl, h9⟩; have D9 := D.on h9; clear D h9; have D := D9; clear D9)))
          go_ret
          exact ⟨rfl, D.hb⟩
        · have O2 := Lib.hid (ints_empty (wr) (H := (wr).heap.size) rfl)
          have hq0 := dice_lt D.dd
          have hB0 := Lib.hid (fun x hx => D.bx.lt (x := x) hx)
          have K2 := D.al' (.cells #[] 3)
          have HLa := Lib.hid (ll.f.on (Same.alloc (wr) (.cells #[] 3)))
          obtain ⟨y0, y1, y2⟩ := three_row (K2.get 0 rfl)
          go_wp2_with (first
            | (at_builtin; refine append_ints rfl (.tmp 86) (.tmp 88) rfl (wr).heap.size _ 0 [] rfl O2.out _ _ _ P.free rfl HLa.out (by omega) (by simp) ?_; intro v9 w9 own9 gr9; rw [Nat.zero_add, List.nil_append] at own9; have K9 := K2.grown gr9 (fun z hz => by have h8 : (wr).heap.size = z := Option.some.inj hz; subst h8; exact ⟨hq0, fun x hx => Nat.ne_of_lt (hB0.out x hx)⟩); have hs9 := gr9.size; rw [World.size_alloc] at hs9; clear K2 x0 x1 x2 y0 y1 y2 O2 gr9 D ll HLa; have own8 := e_owns_on own9 ((Below.refl _ _).alloc (Nat.le_refl _) (.cells #[.int .i64 0] 3 (0, 0))); have K2 := K9.al' (.cells #[.int .i64 0] 3 (0, 0)); have hbk9 := Lib.hid (fun b hb => (own9.lt b hb).1); clear K9 own9; obtain ⟨x0, x1, x2⟩ := three_row (K2.get 0 rfl))
            | (at_builtin; refine append_int rfl (.tmp 89) (.tmp 90) rfl (wr).heap.size v9 n P.free rfl own8 w9.heap.size 0 rfl (heap_alloc_new w9 (.cells #[.int .i64 0] 3 (0, 0))) (by omega) (by rw [World.size_alloc]; omega) ?_; intro g10 k10 w10 own10 gr10 at10; have D := K2.grown gr10 (fun z hz => by have h8 := hbk9.out z hz; exact ⟨by omega, fun x hx => Nat.ne_of_lt (Nat.lt_of_lt_of_le (hB0.out x hx) h8)⟩); have l10 : IList w10 (fun b => (wr).heap.size ≤ b) (some ⟨g10, 0, none⟩) (n + 1) k10 (P.free ++ [0]) := (by obtain ⟨a9, c9, e9, l9⟩ := own_ilist (F := fun b => (wr).heap.size ≤ b) own10 (fun b hb => (own10.lt b hb).1); cases e9; exact l9); clear K2 x0 x1 x2 gr10 at10 own10 own8 hbk9; obtain ⟨x0, x1, x2⟩ := three_row (D.get 0 rfl))
            | ((with_reducible refine store_slice_c 22 (.tmp 92) (.tmp 91) X 0 (some ⟨g10, 0, none⟩) (n + 1) k10 ?_ ?_ ⟨_, x0⟩ (free_row_c (D.get 0 rfl)) ints_info1 ?_); (· rfl); (· rfl); simp only [Act.put]; rw [setCell_eq_setRow _ _ _ _ _ _ _ (D.get 0 rfl)]; simp only [List.setIfInBounds_toArray, List.set_cons_zero]; have hXl := hB0.out (X, poRow a n c h k) (.head _); have D9 := D.put 0 rfl (B' := [(X, poRow (some ⟨g10, 0, none⟩) (n + 1) k10 h k), (C, confRow cz cs cb cq cd ch)]) rfl; have ll : FList _ _ (some ⟨g10, 0, none⟩) (n + 1) k10 h k ⟨P.free ++ [0], h, k⟩ := ⟨rfl, rfl, l10.on (Same.row (r := X) (fun h => by have h8 : (wr).heap.size ≤ X := h; have h9 : X < (wr).heap.size := hXl; omega) #[.slice (some ⟨g10, 0, none⟩) (n + 1) k10, .int .i64 h, .int .i64 k])⟩; generalize w10.setRow X #[.slice (some ⟨g10, 0, none⟩) (n + 1) k10, .int .i64 h, .int .i64 k] = w7 at *; clear D l10 x0 x1 x2 hXl hB0; have D := D9; clear D9)
            | (go_at_call 6; (have H1 := poolAgree_any H _ _ cz cs cb cq cd ch 5 true (some ⟨g10, 0, none⟩) (n + 1) k10 h k _ ll (by omega); unfold confV at H1; (with_reducible refine H1.mono ?_); clear H1; rintro r9 w5 ⟨rfl, h9⟩; have D9 := D.on h9; clear D h9 ll; have D := D9; clear D9))
            | ((with_reducible refine Plan.load_lit 24 (.tmp 7) (X) ?_ (D.get 0 rfl) Try.underlying24 ?_ ?_ ?_); (· rfl); (· rfl); (· exact po_info); simp only [Act.put, List.setIfInBounds_toArray, List.set_cons_zero, List.set_cons_succ])
            | ((with_reducible refine Plan.load_lit 26 (.tmp 6) (C) ?_ (D.get 1 rfl) Try.underlying26 ?_ ?_ ?_); (· rfl); (· rfl); (· exact conf_info); simp only [Act.put, List.setIfInBounds_toArray, List.set_cons_zero, List.set_cons_succ])
            | (go_at_call 7; ((with_reducible refine (HW.out _).mono ?_); rintro r9 w6 ⟨rfl, h9⟩; have D9 := D.on h9; clear D h9; have D := D9; clear D9)))
          go_ret
          exact ⟨rfl, D.hb⟩
        · go_wp2_with (first
            | ((with_reducible refine store_int_c 3 (.tmp 98) (.tmp 97) C 0 .i64 (cz - 1) ?_ ?_ ⟨_, d0⟩ (free_row_c (D.get 1 rfl)) Put.int_info1 ?_); (· rfl); (· rfl); simp only [Act.put]; rw [setCell_eq_setRow _ _ _ _ _ _ _ (D.get 1 rfl)]; simp only [List.setIfInBounds_toArray, List.set_cons_zero]; have D9 := D.put 1 rfl (B' := [(X, poRow a n c h k), (C, confRow (cz - 1) cs cb cq cd ch)]) rfl; have l9 := ll.on (Same.row (r := C) (fun h => h.2.1 rfl) #[.int .i64 (cz - 1), .int .i64 cs, .int .i64 cb, .int .i64 cq, .int .i64 cd, .int .i64 ch]); generalize wr.setRow C #[.int .i64 (cz - 1), .int .i64 cs, .int .i64 cb, .int .i64 cq, .int .i64 cd, .int .i64 ch] = w7 at *; clear D ll x0 x1 x2 d0 d1 d2 d3 d4 d5; have D := D9; have ll := l9; clear D9 l9)
            | (go_at_call 6; (have H1 := poolAgree_any H _ _ (cz - 1) cs cb cq cd ch 5 true a n c h k _ ll (by omega); unfold confV at H1; (with_reducible refine H1.mono ?_); clear H1; rintro r9 w5 ⟨rfl, h9⟩; have D9 := D.on h9; clear D h9 ll; have D := D9; clear D9))
            | ((with_reducible refine Plan.load_lit 24 (.tmp 7) (X) ?_ (D.get 0 rfl) Try.underlying24 ?_ ?_ ?_); (· rfl); (· rfl); (· exact po_info); simp only [Act.put, List.setIfInBounds_toArray, List.set_cons_zero, List.set_cons_succ])
            | ((with_reducible refine Plan.load_lit 26 (.tmp 6) (C) ?_ (D.get 1 rfl) Try.underlying26 ?_ ?_ ?_); (· rfl); (· rfl); (· exact conf_info); simp only [Act.put, List.setIfInBounds_toArray, List.set_cons_zero, List.set_cons_succ])
            | (go_at_call 7; ((with_reducible refine (HW.out _).mono ?_); rintro r9 w6 ⟨rfl, h9⟩; have D9 := D.on h9; clear D h9; have D := D9; clear D9)))
          go_ret
          exact ⟨rfl, D.hb⟩
        · go_wp2_with (first
            | (go_at_call 6; (have H1 := poolAgree_any H _ _ cz cs cb cq cd ch 5 true a n c h k _ ll (by omega); unfold confV at H1; (with_reducible refine H1.mono ?_); clear H1; rintro r9 w5 ⟨rfl, h9⟩; have D9 := D.on h9; clear D h9 ll; have D := D9; clear D9))
            | ((with_reducible refine Plan.load_lit 24 (.tmp 7) (X) ?_ (D.get 0 rfl) Try.underlying24 ?_ ?_ ?_); (· rfl); (· rfl); (· exact po_info); simp only [Act.put, List.setIfInBounds_toArray, List.set_cons_zero, List.set_cons_succ])
            | ((with_reducible refine Plan.load_lit 26 (.tmp 6) (C) ?_ (D.get 1 rfl) Try.underlying26 ?_ ?_ ?_); (· rfl); (· rfl); (· exact conf_info); simp only [Act.put, List.setIfInBounds_toArray, List.set_cons_zero, List.set_cons_succ])
            | (go_at_call 7; ((with_reducible refine (HW.out _).mono ?_); rintro r9 w6 ⟨rfl, h9⟩; have D9 := D.on h9; clear D h9; have D := D9; clear D9)))
          go_ret
          exact ⟨rfl, D.hb⟩
  · rw [decide_eq_false hm] at HLT
    go_enter Try.func4, Try.ntmps4
    go_wp2_with (first
      | (go_at_call 8; ((with_reducible refine (HLT.out _).mono ?_); rintro r9 w4 ⟨rfl, rfl⟩))
      | (go_at_call 7; ((with_reducible refine (HW.out _).mono ?_); rintro r9 w6 ⟨rfl, h9⟩; have hb1 := hb.trans (h9.mono hb.size); clear hb; have hb := hb1)))
    go_ret
    exact ⟨rfl, hb⟩
end Go.Proofs.Ytjdlekjikemdpaa.Ents
