
/- The walk of the program's Change of counters. -/
import Derived.Test.YtigmjpkhpoolkaaLivePEq
namespace Go.Proofs.Ytigmjpkhpoolkaa.Ents
open Go.RowKit Plan EntMath CntMath
/-- where a change stands: the four boxes of its own -/
structure ChgW (w W : World) (XR o f : Obj) : Prop where
  x : W.heap[w.heap.size]? = some XR
  o : W.heap[w.heap.size + 1]? = some o
  f : W.heap[w.heap.size + 2]? = some f
  r : W.heap[w.heap.size + 3]? = some (cntRow none 0 0 none 0 0)
  b : Below w.heap.size w W
theorem ChgW.start (w : World) (XR o f : Obj) : ChgW w ((((w.alloc XR).alloc o).alloc f).alloc (cntRow none 0 0 none 0 0)) XR o f := by
  obtain ⟨h1, h2, h3, h4⟩ := heap4c w XR o f (cntRow none 0 0 none 0 0)
  exact ⟨h1, h2, h3, h4, ((((Below.refl w.heap.size w).alloc (Nat.le_refl _) _).alloc (by simp) _).alloc (by simp; omega) _).alloc (by simp; omega) _⟩
theorem ChgW.on {w W W' : World} {XR o f : Obj} (K : ChgW w W XR o f) (h : Below W.heap.size W W') : ChgW w W' XR o f :=
  ⟨e_on h K.x (e_lt K.x), e_on h K.o (e_lt K.o), e_on h K.f (e_lt K.f), e_on h K.r (e_lt K.r), K.b.trans (h.mono K.b.size)⟩
theorem ChgW.al {w W : World} {XR o f : Obj} (K : ChgW w W XR o f) (p : Obj) : ChgW w (W.alloc p) XR o f := ⟨e_al K.x p, e_al K.o p, e_al K.f p, e_al K.r p, K.b.alloc K.b.size p⟩
theorem ChgW.row {w W : World} {XR o f : Obj} (K : ChgW w W XR o f) {X : Nat} (hX : w.heap.size + 3 < X) (cs : Array Value) : ChgW w (W.setRow X cs) XR o f :=
  ⟨(setRow_other _ _ _ _ (by omega)).trans K.x, (setRow_other _ _ _ _ (by omega)).trans K.o, (setRow_other _ _ _ _ (by omega)).trans K.f, (setRow_other _ _ _ _ (by omega)).trans K.r, below_setRow K.b (by omega) cs⟩
theorem ChgW.cell {w W : World} {XR o f : Obj} (K : ChgW w W XR o f) {g k : Nat} (hg : w.heap.size + 3 < g) (u : Value) : ChgW w (W.setCell ⟨g, k, none⟩ u) XR o f :=
  ⟨(Below.heap_setCell _ _ _ _ (by simp; omega)).trans K.x, (Below.heap_setCell _ _ _ _ (by simp; omega)).trans K.o, (Below.heap_setCell _ _ _ _ (by simp; omega)).trans K.f, (Below.heap_setCell _ _ _ _ (by simp; omega)).trans K.r, K.b.setCell (by simp; omega) u⟩
theorem ChgW.lt {w W : World} {XR o f : Obj} (K : ChgW w W XR o f) : w.heap.size + 3 < W.heap.size := e_lt K.r
theorem ChgW.oz {w W : World} {XR f : Obj} {b k v m z o : Int} (K : ChgW w W XR (entRow b k v m z o) f) : W.cell? ⟨w.heap.size + 1, 4, none⟩ = some (.int .i64 z) := cell_of_row _ _ 4 _ _ _ K.o
theorem ChgW.fz {w W : World} {XR o' : Obj} {b k v m z o : Int} (K : ChgW w W XR o' (entRow b k v m z o)) : W.cell? ⟨w.heap.size + 2, 4, none⟩ = some (.int .i64 z) := cell_of_row _ _ 4 _ _ _ K.f
theorem ChgW.c0 {w W : World} {a a2 : Option Addr} {n c n2 c2 : Nat} {o f : Obj} (K : ChgW w W (cntRow a n c a2 n2 c2) o f) : W.cell? ⟨w.heap.size, 0, none⟩ = some (.slice a n c) := cell_of_row _ _ 0 _ _ _ K.x
theorem chg_same {C : Cnt} {z : Int} {b : Bool} (hh : b = true → hasC C z = true) : changedC C z z b b = C := by
  cases b
  · rfl
  · have h := has_c.1 (hh rfl)
    obtain ⟨k, rfl⟩ : ∃ k : Nat, z = (k : Int) := ⟨z.toNat, by omega⟩
    have hk : k < C.live.length := by omega
    have hq : C.live[k]? = some C.live[k] := List.getElem?_eq_getElem hk
    have e1 : plusL C.live k (-1) = C.live.set k (C.live[k] + -1) := plus_is hq (-1)
    have e2 : (C.live.set k (C.live[k] + -1))[k]? = some (C.live[k] + -1) := by rw [List.getElem?_set_self hk]
    have e3 : more (less C (k : Int) true) (k : Int) true = C.live := by
      show plusL (plusL C.live ((k : Int)).toNat (-1)) ((k : Int)).toNat 1 = C.live
      rw [Int.toNat_natCast, e1, plus_is e2, List.set_set, show C.live[k] + -1 + 1 = C.live[k] by omega, List.set_getElem_self]
    unfold changedC
    rw [e3]
theorem chg_at {C : Cnt} {z : Int} {b : Bool} {i : Nat} (hv : validC C = true) (hi : i < C.live.length) : ∃ y, (less C z b)[i]? = some y ∧ -10 ≤ y ∧ y ≤ 1099511627786 := less_at hv hi
theorem less_len {C : Cnt} {z : Int} {b : Bool} : (less C z b).length = C.live.length := by
  unfold less
  split
  · exact plus_len _ _ _
  · rfl
theorem chg_list {w W : World} {F : Nat → Prop} {B : Nat} {a : Option Addr} {n c g k m : Nat} {Z P : List Int} (hp : ∀ W, Below w.heap.size w W → IList W (fun b => F b ∧ b < w.heap.size) a n c P) (ho : W.ownsRow B 3 1 (.slice (some ⟨g, 0, none⟩) m k) m (intC Z)) (hb : Below w.heap.size w W) (hg : w.heap.size + 3 < g) : CList W (fun b => (F b ∧ b < w.heap.size) ∨ w.heap.size + 3 < b) (some ⟨g, 0, none⟩) m k a n c ⟨Z, P⟩ := by
  obtain ⟨a9, c9, e9, l9⟩ := own_ilist (F := fun b => (F b ∧ b < w.heap.size) ∨ w.heap.size + 3 < b) ho (fun b h9 => .inr (by have h8 := Option.some.inj (show some g = some b from h9); omega))
  cases e9
  exact ⟨l9, (hp _ hb).mono fun _ _ h => .inl h⟩
set_option maxHeartbeats 4000000 in
set_option maxRecDepth 20000 in
theorem lchg_no (F : Nat → Prop) (C : Cnt) (b1 k1 v1 m1 z1 o1 b2 k2 v2 m2 z2 o2 : Int) (had is : Bool) (a a2 : Option Addr) (n c n2 c2 : Nat) (w : World) (hl : CList w F a n c a2 n2 c2 C) (hask : asksC C z1 z2 had is = false) :
    Calls Try.prog 14 #[cntV a n c a2 n2 c2, entV ⟨b1, k1, v1, m1, z1, o1⟩, entV ⟨b2, k2, v2, m2, z2, o2⟩, .bool had, .bool is] w (CntPost w F (changeC C z1 z2 had is) (changeB C z1 z2 had is)) := by
  obtain ⟨r1, r2⟩ := change_no hask
  rw [r1, r2]
  clear r1 r2
  have K := ChgW.start w (cntRow a n c a2 n2 c2) (entRow b1 k1 v1 m1 z1 o1) (entRow b2 k2 v2 m2 z2 o2)
  have HV := Lib.hid (fun W (h : Below w.heap.size w W) => lvalid_any _ C a a2 n c n2 c2 W (hl.same h))
  have HZ1 := Lib.hid (fun W => isZone_any z1 a a2 n c n2 c2 W)
  have HZ2 := Lib.hid (fun W => isZone_any z2 a a2 n c n2 c2 W)
  have HEND := Lib.hid (fun W (h : Below w.heap.size w W) (cs : Array Value) => (show CList (W.setRow (w.heap.size + 3) cs) (Plus F w.heap.size) a n c a2 n2 c2 C from
    ((hl.cut.on (Same.below (w' := W) h)).on (Same.row (r := w.heap.size + 3) (fun h9 => by have := h9.2; omega) cs)).mono (fun b _ h => .inl h.1)))
  have hzz : ∀ z, validC C = true → hasC C z = decide (0 ≤ z ∧ z < (n : Int)) := fun z hv => by
    have h2 := hl.l.length
    unfold hasC
    rw [hv, Bool.true_and, h2, ← Bool.decide_and]
  unfold asksC at hask
  cases hva : validC C
  · rw [hva] at HV
    clear hzz hl hask hva HZ1 HZ2
    go_enter Try.func14, Try.ntmps14
    generalize hw0 : (((w.alloc (cntRow a n c a2 n2 c2)).alloc (entRow b1 k1 v1 m1 z1 o1)).alloc (entRow b2 k2 v2 m2 z2 o2)).alloc (cntRow none 0 0 none 0 0) = w0 at *
    have c4 := K.oz
    have d4 := K.fz
    have e0 := (K.al (cntRow a n c a2 n2 c2)).c0
    go_wp2_with (first
      | ((with_reducible refine Plan.load_lit 24 (.tmp 5) w.heap.size ?_ K.x Try.underlying24 ?_ ?_ ?_); (· rfl); (· rfl); (· exact cnt_info); simp only [Act.put, List.setIfInBounds_toArray, List.set_cons_zero, List.set_cons_succ])
      | (go_at_call 22; ((with_reducible refine (HV.out _ K.b).mono ?_); rintro r9 wl ⟨rfl, h1⟩; clear HV hw0; have K9 := K.on h1; clear K c4 d4 e0; have K := K9; clear K9 h1; have c4 := K.oz; have d4 := K.fz; have e0 := (K.al (cntRow a n c a2 n2 c2)).c0))
      | ((with_reducible refine load_lit_gc 24 (.tmp 5) w.heap.size ?_ ?_ K.x Try.underlying24 ?_ ?_ ?_); (· rfl); (· rfl); (· rfl); (· exact cnt_info); simp only [Act.put, List.setIfInBounds_toArray, List.set_cons_zero, List.set_cons_succ])
      | ((with_reducible refine Plan.store_lit 24 (.tmp 10) _ (w.heap.size + 3) ?_ K.r ?_ ?_ ?_ ?_ ?_ ?_); rotate_left; (· rfl); (· rfl); (· exact cnt_info); (· rfl); (· simp [Value.oneCell']); simp only [Act.put]))
    exact bodyPost_ret (Plan.results_cell_tmp (p := 10) (q := 11) rfl _ _ _ _ _ _ _ rfl (setRow_heap _ _ _ _ _ _ K.r) Try.underlying24 rfl cnt_info) rfl ⟨_, _, _, _, _, _, rfl, HEND.out _ K.b _, below_setRow K.b (show w.heap.size ≤ w.heap.size + 3 by omega) _⟩
  · rw [hva] at HV hask
    rw [hzz z1 hva, hzz z2 hva, Bool.true_and] at hask
    clear hzz hl hva
    generalize decide (0 ≤ z1 ∧ z1 < (n : Int)) = Q1 at *
    generalize decide (0 ≤ z2 ∧ z2 < (n : Int)) = Q2 at *
    cases had
    · cases is
      · cases hask
      · rw [show Q2 = false from hask] at HZ2
        clear hask
        go_enter Try.func14, Try.ntmps14
        generalize hw0 : (((w.alloc (cntRow a n c a2 n2 c2)).alloc (entRow b1 k1 v1 m1 z1 o1)).alloc (entRow b2 k2 v2 m2 z2 o2)).alloc (cntRow none 0 0 none 0 0) = w0 at *
        have c4 := K.oz
        have d4 := K.fz
        have e0 := (K.al (cntRow a n c a2 n2 c2)).c0
        go_wp2_with (first
          | ((with_reducible refine Plan.load_lit 24 (.tmp 5) w.heap.size ?_ K.x Try.underlying24 ?_ ?_ ?_); (· rfl); (· rfl); (· exact cnt_info); simp only [Act.put, List.setIfInBounds_toArray, List.set_cons_zero, List.set_cons_succ])
          | (go_at_call 22; ((with_reducible refine (HV.out _ K.b).mono ?_); rintro r9 wl ⟨rfl, h1⟩; clear HV hw0; have K9 := K.on h1; clear K c4 d4 e0; have K := K9; clear K9 h1; have c4 := K.oz; have d4 := K.fz; have e0 := (K.al (cntRow a n c a2 n2 c2)).c0))
          | ((with_reducible refine load_lit_gc 24 (.tmp 5) w.heap.size ?_ ?_ K.x Try.underlying24 ?_ ?_ ?_); (· rfl); (· rfl); (· rfl); (· exact cnt_info); simp only [Act.put, List.setIfInBounds_toArray, List.set_cons_zero, List.set_cons_succ])
          | (go_at_call 32; ((with_reducible refine (HZ2.out _).mono ?_); rintro r9 wl ⟨rfl, h1⟩; clear HZ2; have K9 := K.on h1; clear K c4 d4 e0; have K := K9; clear K9 h1; have c4 := K.oz; have d4 := K.fz; have e0 := (K.al (cntRow a n c a2 n2 c2)).c0))
          | ((with_reducible refine Plan.store_lit 24 (.tmp 10) _ (w.heap.size + 3) ?_ K.r ?_ ?_ ?_ ?_ ?_ ?_); rotate_left; (· rfl); (· rfl); (· exact cnt_info); (· rfl); (· simp [Value.oneCell']); simp only [Act.put]))
        exact bodyPost_ret (Plan.results_cell_tmp (p := 10) (q := 11) rfl _ _ _ _ _ _ _ rfl (setRow_heap _ _ _ _ _ _ K.r) Try.underlying24 rfl cnt_info) rfl ⟨_, _, _, _, _, _, rfl, HEND.out _ K.b _, below_setRow K.b (show w.heap.size ≤ w.heap.size + 3 by omega) _⟩
    · cases Q1
      · clear hask
        go_enter Try.func14, Try.ntmps14
        generalize hw0 : (((w.alloc (cntRow a n c a2 n2 c2)).alloc (entRow b1 k1 v1 m1 z1 o1)).alloc (entRow b2 k2 v2 m2 z2 o2)).alloc (cntRow none 0 0 none 0 0) = w0 at *
        have c4 := K.oz
        have d4 := K.fz
        have e0 := (K.al (cntRow a n c a2 n2 c2)).c0
        go_wp2_with (first
          | ((with_reducible refine Plan.load_lit 24 (.tmp 5) w.heap.size ?_ K.x Try.underlying24 ?_ ?_ ?_); (· rfl); (· rfl); (· exact cnt_info); simp only [Act.put, List.setIfInBounds_toArray, List.set_cons_zero, List.set_cons_succ])
          | (go_at_call 22; ((with_reducible refine (HV.out _ K.b).mono ?_); rintro r9 wl ⟨rfl, h1⟩; clear HV hw0; have K9 := K.on h1; clear K c4 d4 e0; have K := K9; clear K9 h1; have c4 := K.oz; have d4 := K.fz; have e0 := (K.al (cntRow a n c a2 n2 c2)).c0))
          | ((with_reducible refine load_lit_gc 24 (.tmp 5) w.heap.size ?_ ?_ K.x Try.underlying24 ?_ ?_ ?_); (· rfl); (· rfl); (· rfl); (· exact cnt_info); simp only [Act.put, List.setIfInBounds_toArray, List.set_cons_zero, List.set_cons_succ])
          | (go_at_call 32; ((with_reducible refine (HZ1.out _).mono ?_); rintro r9 wl ⟨rfl, h1⟩; clear HZ1; have K9 := K.on h1; clear K c4 d4 e0; have K := K9; clear K9 h1; have c4 := K.oz; have d4 := K.fz; have e0 := (K.al (cntRow a n c a2 n2 c2)).c0))
          | ((with_reducible refine Plan.store_lit 24 (.tmp 10) _ (w.heap.size + 3) ?_ K.r ?_ ?_ ?_ ?_ ?_ ?_); rotate_left; (· rfl); (· rfl); (· exact cnt_info); (· rfl); (· simp [Value.oneCell']); simp only [Act.put]))
        exact bodyPost_ret (Plan.results_cell_tmp (p := 10) (q := 11) rfl _ _ _ _ _ _ _ rfl (setRow_heap _ _ _ _ _ _ K.r) Try.underlying24 rfl cnt_info) rfl ⟨_, _, _, _, _, _, rfl, HEND.out _ K.b _, below_setRow K.b (show w.heap.size ≤ w.heap.size + 3 by omega) _⟩
      · cases is
        · cases hask
        · rw [show Q2 = false from hask] at HZ2
          clear hask
          go_enter Try.func14, Try.ntmps14
          generalize hw0 : (((w.alloc (cntRow a n c a2 n2 c2)).alloc (entRow b1 k1 v1 m1 z1 o1)).alloc (entRow b2 k2 v2 m2 z2 o2)).alloc (cntRow none 0 0 none 0 0) = w0 at *
          have c4 := K.oz
          have d4 := K.fz
          have e0 := (K.al (cntRow a n c a2 n2 c2)).c0
          go_wp2_with (first
            | ((with_reducible refine Plan.load_lit 24 (.tmp 5) w.heap.size ?_ K.x Try.underlying24 ?_ ?_ ?_); (· rfl); (· rfl); (· exact cnt_info); simp only [Act.put, List.setIfInBounds_toArray, List.set_cons_zero, List.set_cons_succ])
            | (go_at_call 22; ((with_reducible refine (HV.out _ K.b).mono ?_); rintro r9 wl ⟨rfl, h1⟩; clear HV hw0; have K9 := K.on h1; clear K c4 d4 e0; have K := K9; clear K9 h1; have c4 := K.oz; have d4 := K.fz; have e0 := (K.al (cntRow a n c a2 n2 c2)).c0))
            | ((with_reducible refine load_lit_gc 24 (.tmp 5) w.heap.size ?_ ?_ K.x Try.underlying24 ?_ ?_ ?_); (· rfl); (· rfl); (· rfl); (· exact cnt_info); simp only [Act.put, List.setIfInBounds_toArray, List.set_cons_zero, List.set_cons_succ])
            | (go_at_call 32; ((with_reducible refine (HZ1.out _).mono ?_); rintro r9 wl ⟨rfl, h1⟩; clear HZ1; have K9 := K.on h1; clear K c4 d4 e0; have K := K9; clear K9 h1; have c4 := K.oz; have d4 := K.fz; have e0 := (K.al (cntRow a n c a2 n2 c2)).c0))
            | (go_at_call 32; ((with_reducible refine (HZ2.out _).mono ?_); rintro r9 wl ⟨rfl, h1⟩; clear HZ2; have K9 := K.on h1; clear K c4 d4 e0; have K := K9; clear K9 h1; have c4 := K.oz; have d4 := K.fz; have e0 := (K.al (cntRow a n c a2 n2 c2)).c0))
            | ((with_reducible refine Plan.store_lit 24 (.tmp 10) _ (w.heap.size + 3) ?_ K.r ?_ ?_ ?_ ?_ ?_ ?_); rotate_left; (· rfl); (· rfl); (· exact cnt_info); (· rfl); (· simp [Value.oneCell']); simp only [Act.put]))
          exact bodyPost_ret (Plan.results_cell_tmp (p := 10) (q := 11) rfl _ _ _ _ _ _ _ rfl (setRow_heap _ _ _ _ _ _ K.r) Try.underlying24 rfl cnt_info) rfl ⟨_, _, _, _, _, _, rfl, HEND.out _ K.b _, below_setRow K.b (show w.heap.size ≤ w.heap.size + 3 by omega) _⟩
set_option maxHeartbeats 4000000 in
set_option maxRecDepth 20000 in
theorem lchg_ff (F : Nat → Prop) (C : Cnt) (b1 k1 v1 m1 z1 o1 b2 k2 v2 m2 z2 o2 : Int) (a a2 : Option Addr) (n c n2 c2 : Nat) (w : World) (hl : CList w F a n c a2 n2 c2 C) (hva : validC C = true) :
    Calls Try.prog 14 #[cntV a n c a2 n2 c2, entV ⟨b1, k1, v1, m1, z1, o1⟩, entV ⟨b2, k2, v2, m2, z2, o2⟩, .bool false, .bool false] w (CntPost w F (changeC C z1 z2 false false) (changeB C z1 z2 false false)) := by
  have K := ChgW.start w (cntRow a n c a2 n2 c2) (entRow b1 k1 v1 m1 z1 o1) (entRow b2 k2 v2 m2 z2 o2)
  have HV := Lib.hid (fun W (h : Below w.heap.size w W) => lvalid_any _ C a a2 n c n2 c2 W (hl.same h))
  have HZ1 := Lib.hid (fun W => isZone_any z1 a a2 n c n2 c2 W)
  have HZ2 := Lib.hid (fun W => isZone_any z2 a a2 n c n2 c2 W)
  have HEND := Lib.hid (fun W (h : Below w.heap.size w W) (cs : Array Value) => (show CList (W.setRow (w.heap.size + 3) cs) (Plus F w.heap.size) a n c a2 n2 c2 C from
    ((hl.cut.on (Same.below (w' := W) h)).on (Same.row (r := w.heap.size + 3) (fun h9 => by have := h9.2; omega) cs)).mono (fun b _ h => .inl h.1)))
  obtain ⟨r1, r2⟩ := change_yes (C := C) (o := z1) (f := z2) (had := false) (is := false) (by unfold asksC; rw [hva]; rfl)
  rw [hva] at HV
  have hlen := hl.l.length
  have hvv := valid_c.1 hva
  have hn32 : n ≤ 32 := by omega
  have hn0 : 0 < n := by omega
  obtain ⟨x, rfl, hxl, -⟩ := hl.l.some' hn0
  have HCL := Lib.hid (fun W (h : Below w.heap.size w W) => iclone_any _ C.live x n c W (hl.l.same h) hn0 (by omega))
  have HPD := Lib.hid (fun W (h : Below w.heap.size w W) => (show IList W (fun b => F b ∧ b < w.heap.size) a2 n2 c2 C.pend from hl.p.cut.on (Same.below h)))
  by_cases hE : (⟨b1, k1, v1, m1, z1, o1⟩ : Ent) = ⟨b2, k2, v2, m2, z2, o2⟩
  · have hEQ := fun W => ent_eql ⟨b1, k1, v1, m1, z1, o1⟩ ⟨b2, k2, v2, m2, z2, o2⟩ W
    rw [decide_eq_true hE] at hEQ
    have hz : z1 = z2 := congrArg Ent.zone hE
    have hsame := chg_same (C := C) (z := z1) (b := false) (fun h => by cases h)
    rw [hz] at hsame
    rw [r1, r2]
    rw [hz, hsame, hva, if_pos rfl]
    rw [hz] at HZ1
    clear hsame r1 r2
    subst hz
    clear hE hl hva hvv hlen
    go_enter Try.func14, Try.ntmps14
    generalize hw0 : (((w.alloc (cntRow (some x) n c a2 n2 c2)).alloc (entRow b1 k1 v1 m1 z1 o1)).alloc (entRow b2 k2 v2 m2 z1 o2)).alloc (cntRow none 0 0 none 0 0) = w0 at *
    have c4 := K.oz
    have d4 := K.fz
    have e0 := (K.al (cntRow (some x) n c a2 n2 c2)).c0
    go_wp2_with (first
      | ((with_reducible refine Plan.load_lit 24 (.tmp 5) w.heap.size ?_ K.x Try.underlying24 ?_ ?_ ?_); (· rfl); (· rfl); (· exact cnt_info); simp only [Act.put, List.setIfInBounds_toArray, List.set_cons_zero, List.set_cons_succ])
      | (go_at_call 22; ((with_reducible refine (HV.out _ K.b).mono ?_); rintro r9 wl ⟨rfl, h1⟩; clear HV hw0; have K9 := K.on h1; clear K c4 d4 e0; have K := K9; clear K9 h1; have c4 := K.oz; have d4 := K.fz; have e0 := (K.al (cntRow (some x) n c a2 n2 c2)).c0))
      | ((with_reducible refine load_lit_gc 24 (.tmp 5) w.heap.size ?_ ?_ K.x Try.underlying24 ?_ ?_ ?_); (· rfl); (· rfl); (· rfl); (· exact cnt_info); simp only [Act.put, List.setIfInBounds_toArray, List.set_cons_zero, List.set_cons_succ])
      | ((with_reducible refine load_lit_gc 28 (.tmp 6) (w.heap.size + 1) ?_ ?_ K.o Try.underlying28 ?_ ?_ ?_); (· rfl); (· rfl); (· rfl); (· exact entry_info); simp only [Act.put, List.setIfInBounds_toArray, List.set_cons_zero, List.set_cons_succ])
      | ((with_reducible refine load_lit_gc 28 (.tmp 7) (w.heap.size + 2) ?_ ?_ K.f Try.underlying28 ?_ ?_ ?_); (· rfl); (· rfl); (· rfl); (· exact entry_info); simp only [Act.put, List.setIfInBounds_toArray, List.set_cons_zero, List.set_cons_succ])
      | ((with_reducible refine Plan.store_lit 24 (.tmp 10) _ (w.heap.size + 3) ?_ K.r ?_ ?_ ?_ ?_ ?_ ?_); rotate_left; (· rfl); (· rfl); (· exact cnt_info); (· rfl); (· simp [Value.oneCell']); simp only [Act.put]))
    exact bodyPost_ret (Plan.results_cell_tmp (p := 10) (q := 11) rfl _ _ _ _ _ _ _ rfl (setRow_heap _ _ _ _ _ _ K.r) Try.underlying24 rfl cnt_info) rfl ⟨_, _, _, _, _, _, rfl, HEND.out _ K.b _, below_setRow K.b (show w.heap.size ≤ w.heap.size + 3 by omega) _⟩
  · have hEQ := fun W => ent_eql ⟨b1, k1, v1, m1, z1, o1⟩ ⟨b2, k2, v2, m2, z2, o2⟩ W
    rw [decide_eq_false hE] at hEQ
    clear hE
    rw [r1, r2]
    clear r1 r2 hl hvv hlen
    obtain ⟨V, hV⟩ : ∃ V, validC (changedC C z1 z2 false false) = V := ⟨_, rfl⟩
    rw [hV]
    have hcd : changedC C z1 z2 false false = ⟨more (less C z1 false) z2 false, C.pend⟩ := rfl
    rw [hcd] at hV ⊢
    clear hcd
    have hm : more (less C z1 false) z2 false = less C z1 false := rfl
    rw [hm] at hV ⊢
    clear hm
    have hm : less C z1 false = C.live := rfl
    rw [hm] at hV ⊢
    clear hm
    have HVD := Lib.hid hV
    clear hV hva
    cases V
    · skip
      go_enter Try.func14, Try.ntmps14
      generalize hw0 : (((w.alloc (cntRow (some x) n c a2 n2 c2)).alloc (entRow b1 k1 v1 m1 z1 o1)).alloc (entRow b2 k2 v2 m2 z2 o2)).alloc (cntRow none 0 0 none 0 0) = w0 at *
      have c4 := K.oz
      have d4 := K.fz
      have e0 := (K.al (cntRow (some x) n c a2 n2 c2)).c0
      go_wp2_with (first
        | ((with_reducible refine Plan.load_lit 24 (.tmp 5) w.heap.size ?_ K.x Try.underlying24 ?_ ?_ ?_); (· rfl); (· rfl); (· exact cnt_info); simp only [Act.put, List.setIfInBounds_toArray, List.set_cons_zero, List.set_cons_succ])
        | (go_at_call 22; ((with_reducible refine (HV.out _ K.b).mono ?_); rintro r9 wl ⟨rfl, h1⟩; clear HV hw0; have K9 := K.on h1; clear K c4 d4 e0; have K := K9; clear K9 h1; have c4 := K.oz; have d4 := K.fz; have e0 := (K.al (cntRow (some x) n c a2 n2 c2)).c0))
        | ((with_reducible refine load_lit_gc 24 (.tmp 5) w.heap.size ?_ ?_ K.x Try.underlying24 ?_ ?_ ?_); (· rfl); (· rfl); (· rfl); (· exact cnt_info); simp only [Act.put, List.setIfInBounds_toArray, List.set_cons_zero, List.set_cons_succ])
        | ((with_reducible refine load_lit_gc 28 (.tmp 6) (w.heap.size + 1) ?_ ?_ K.o Try.underlying28 ?_ ?_ ?_); (· rfl); (· rfl); (· rfl); (· exact entry_info); simp only [Act.put, List.setIfInBounds_toArray, List.set_cons_zero, List.set_cons_succ])
        | ((with_reducible refine load_lit_gc 28 (.tmp 7) (w.heap.size + 2) ?_ ?_ K.f Try.underlying28 ?_ ?_ ?_); (· rfl); (· rfl); (· rfl); (· exact entry_info); simp only [Act.put, List.setIfInBounds_toArray, List.set_cons_zero, List.set_cons_succ])
        | (go_at_call 33; ((with_reducible refine (HCL.out _ (K.b.alloc K.b.size (cntRow (some x) n c a2 n2 c2))).mono ?_); rintro r9 w3 ⟨g, k3, rfl, hg, hgl, own, h3⟩; have hX := e_on h3 (heap_alloc_new _ (cntRow (some x) n c a2 n2 c2)) (by simp); have hz2 := K.lt; have hgX : wl.heap.size < g := (by rw [World.size_alloc] at hg; omega); have K9 := (K.al (cntRow (some x) n c a2 n2 c2)).on h3; clear K c4 d4 e0; have K := K9; clear K9 h3 hg HCL hgl; have c4 := K.oz; have d4 := K.fz; generalize wl.heap.size = X at *))
        | ((with_reducible refine store_slice_c 22 (.tmp 52) (.tmp 51) X 0 (some ⟨g, 0, none⟩) n k3 ?_ ?_ ⟨_, (two_row hX).1⟩ (free_row_c hX) ints_info1 ?_); (· rfl); (· rfl); simp only [Act.put]; rw [setCell_eq_setRow _ _ _ _ _ _ _ hX]; simp only [List.setIfInBounds_toArray, List.set_cons_zero]; have K9 := K.row hz2 #[.slice (some ⟨g, 0, none⟩) n k3, .slice a2 n2 c2]; have hX9 := setRow_heap w3 X _ #[.slice (some ⟨g, 0, none⟩) n k3, .slice a2 n2 c2] _ _ hX; have own9 := Own.row own #[.slice (some ⟨g, 0, none⟩) n k3, .slice a2 n2 c2] (show X ≠ g by omega); clear K hX own c4 d4; generalize w3.setRow X #[.slice (some ⟨g, 0, none⟩) n k3, .slice a2 n2 c2] = w4 at *; have K := K9; have hX := hX9; have own := own9; clear K9 hX9 own9; have e0 := (two_row hX).1; have c4 := K.oz; have d4 := K.fz; skip; have D := chg_list HPD.out own K.b (show w.heap.size + 3 < g by omega))
        | ((with_reducible refine Plan.load_lit 24 (.tmp 12) X ?_ hX Try.underlying24 ?_ ?_ ?_); (· rfl); (· rfl); (· exact cnt_info); simp only [Act.put, List.setIfInBounds_toArray, List.set_cons_zero, List.set_cons_succ])
        | (go_at_call 34; ((with_reducible refine (ifValid_no _ _ _ _ _ _ _ _ _ _ _ _ _ _ _ D HVD.out).mono ?_); rintro r9 w6 ⟨rfl, h6⟩; have K9 := K.on h6; have D9 := D.on (Same.below h6); clear K D; have K := K9; have D := D9; clear K9 D9 h6))
        | ((with_reducible refine Plan.store_lit 24 (.tmp 10) _ (w.heap.size + 3) ?_ K.r ?_ ?_ ?_ ?_ ?_ ?_); rotate_left; (· rfl); (· rfl); (· exact cnt_info); (· rfl); (· simp [Value.oneCell']); simp only [Act.put]))
      exact bodyPost_ret (Plan.results_cell_tmp (p := 10) (q := 11) rfl _ _ _ _ _ _ _ rfl (setRow_heap _ _ _ _ _ _ K.r) Try.underlying24 rfl cnt_info) rfl ⟨_, _, _, _, _, _, rfl, HEND.out _ K.b _, below_setRow K.b (show w.heap.size ≤ w.heap.size + 3 by omega) _⟩
    · skip
      go_enter Try.func14, Try.ntmps14
      generalize hw0 : (((w.alloc (cntRow (some x) n c a2 n2 c2)).alloc (entRow b1 k1 v1 m1 z1 o1)).alloc (entRow b2 k2 v2 m2 z2 o2)).alloc (cntRow none 0 0 none 0 0) = w0 at *
      have c4 := K.oz
      have d4 := K.fz
      have e0 := (K.al (cntRow (some x) n c a2 n2 c2)).c0
      go_wp2_with (first
        | ((with_reducible refine Plan.load_lit 24 (.tmp 5) w.heap.size ?_ K.x Try.underlying24 ?_ ?_ ?_); (· rfl); (· rfl); (· exact cnt_info); simp only [Act.put, List.setIfInBounds_toArray, List.set_cons_zero, List.set_cons_succ])
        | (go_at_call 22; ((with_reducible refine (HV.out _ K.b).mono ?_); rintro r9 wl ⟨rfl, h1⟩; clear HV hw0; have K9 := K.on h1; clear K c4 d4 e0; have K := K9; clear K9 h1; have c4 := K.oz; have d4 := K.fz; have e0 := (K.al (cntRow (some x) n c a2 n2 c2)).c0))
        | ((with_reducible refine load_lit_gc 24 (.tmp 5) w.heap.size ?_ ?_ K.x Try.underlying24 ?_ ?_ ?_); (· rfl); (· rfl); (· rfl); (· exact cnt_info); simp only [Act.put, List.setIfInBounds_toArray, List.set_cons_zero, List.set_cons_succ])
        | ((with_reducible refine load_lit_gc 28 (.tmp 6) (w.heap.size + 1) ?_ ?_ K.o Try.underlying28 ?_ ?_ ?_); (· rfl); (· rfl); (· rfl); (· exact entry_info); simp only [Act.put, List.setIfInBounds_toArray, List.set_cons_zero, List.set_cons_succ])
        | ((with_reducible refine load_lit_gc 28 (.tmp 7) (w.heap.size + 2) ?_ ?_ K.f Try.underlying28 ?_ ?_ ?_); (· rfl); (· rfl); (· rfl); (· exact entry_info); simp only [Act.put, List.setIfInBounds_toArray, List.set_cons_zero, List.set_cons_succ])
        | (go_at_call 33; ((with_reducible refine (HCL.out _ (K.b.alloc K.b.size (cntRow (some x) n c a2 n2 c2))).mono ?_); rintro r9 w3 ⟨g, k3, rfl, hg, hgl, own, h3⟩; have hX := e_on h3 (heap_alloc_new _ (cntRow (some x) n c a2 n2 c2)) (by simp); have hz2 := K.lt; have hgX : wl.heap.size < g := (by rw [World.size_alloc] at hg; omega); have K9 := (K.al (cntRow (some x) n c a2 n2 c2)).on h3; clear K c4 d4 e0; have K := K9; clear K9 h3 hg HCL hgl; have c4 := K.oz; have d4 := K.fz; generalize wl.heap.size = X at *))
        | ((with_reducible refine store_slice_c 22 (.tmp 52) (.tmp 51) X 0 (some ⟨g, 0, none⟩) n k3 ?_ ?_ ⟨_, (two_row hX).1⟩ (free_row_c hX) ints_info1 ?_); (· rfl); (· rfl); simp only [Act.put]; rw [setCell_eq_setRow _ _ _ _ _ _ _ hX]; simp only [List.setIfInBounds_toArray, List.set_cons_zero]; have K9 := K.row hz2 #[.slice (some ⟨g, 0, none⟩) n k3, .slice a2 n2 c2]; have hX9 := setRow_heap w3 X _ #[.slice (some ⟨g, 0, none⟩) n k3, .slice a2 n2 c2] _ _ hX; have own9 := Own.row own #[.slice (some ⟨g, 0, none⟩) n k3, .slice a2 n2 c2] (show X ≠ g by omega); clear K hX own c4 d4; generalize w3.setRow X #[.slice (some ⟨g, 0, none⟩) n k3, .slice a2 n2 c2] = w4 at *; have K := K9; have hX := hX9; have own := own9; clear K9 hX9 own9; have e0 := (two_row hX).1; have c4 := K.oz; have d4 := K.fz; skip; have D := chg_list HPD.out own K.b (show w.heap.size + 3 < g by omega))
        | ((with_reducible refine Plan.load_lit 24 (.tmp 12) X ?_ hX Try.underlying24 ?_ ?_ ?_); (· rfl); (· rfl); (· exact cnt_info); simp only [Act.put, List.setIfInBounds_toArray, List.set_cons_zero, List.set_cons_succ])
        | (go_at_call 34; ((with_reducible refine (ifValid_yes _ _ _ _ _ _ _ _ _ _ _ _ _ _ _ D HVD.out).mono ?_); rintro r9 w6 ⟨rfl, h6⟩; have K9 := K.on h6; have D9 := D.on (Same.below h6); clear K D; have K := K9; have D := D9; clear K9 D9 h6))
        | ((with_reducible refine Plan.store_lit 24 (.tmp 10) _ (w.heap.size + 3) ?_ K.r ?_ ?_ ?_ ?_ ?_ ?_); rotate_left; (· rfl); (· rfl); (· exact cnt_info); (· rfl); (· simp [Value.oneCell']); simp only [Act.put]))
      exact bodyPost_ret (Plan.results_cell_tmp (p := 10) (q := 11) rfl _ _ _ _ _ _ _ rfl (setRow_heap _ _ _ _ _ _ K.r) Try.underlying24 rfl cnt_info) rfl ⟨_, _, _, _, _, _, rfl, (D.on (Same.row (r := w.heap.size + 3) (fun h => by rcases h with h | h; (· have := h.2; omega); (· omega)) _)).mono (fun b _ h => by rcases h with h | h; (· exact .inl h.1); (· exact .inr (by omega))), below_setRow K.b (show w.heap.size ≤ w.heap.size + 3 by omega) _⟩
set_option maxHeartbeats 4000000 in
set_option maxRecDepth 20000 in
theorem lchg_tf (F : Nat → Prop) (C : Cnt) (b1 k1 v1 m1 z1 o1 b2 k2 v2 m2 z2 o2 : Int) (a a2 : Option Addr) (n c n2 c2 : Nat) (w : World) (hl : CList w F a n c a2 n2 c2 C) (hva : validC C = true) (hh1 : hasC C z1 = true) :
    Calls Try.prog 14 #[cntV a n c a2 n2 c2, entV ⟨b1, k1, v1, m1, z1, o1⟩, entV ⟨b2, k2, v2, m2, z2, o2⟩, .bool true, .bool false] w (CntPost w F (changeC C z1 z2 true false) (changeB C z1 z2 true false)) := by
  have K := ChgW.start w (cntRow a n c a2 n2 c2) (entRow b1 k1 v1 m1 z1 o1) (entRow b2 k2 v2 m2 z2 o2)
  have HV := Lib.hid (fun W (h : Below w.heap.size w W) => lvalid_any _ C a a2 n c n2 c2 W (hl.same h))
  have HZ1 := Lib.hid (fun W => isZone_any z1 a a2 n c n2 c2 W)
  have HZ2 := Lib.hid (fun W => isZone_any z2 a a2 n c n2 c2 W)
  have HEND := Lib.hid (fun W (h : Below w.heap.size w W) (cs : Array Value) => (show CList (W.setRow (w.heap.size + 3) cs) (Plus F w.heap.size) a n c a2 n2 c2 C from
    ((hl.cut.on (Same.below (w' := W) h)).on (Same.row (r := w.heap.size + 3) (fun h9 => by have := h9.2; omega) cs)).mono (fun b _ h => .inl h.1)))
  obtain ⟨r1, r2⟩ := change_yes (C := C) (o := z1) (f := z2) (had := true) (is := false) (by unfold asksC; rw [hva, hh1]; rfl)
  rw [hva] at HV
  have hlen := hl.l.length
  have hvv := valid_c.1 hva
  have hn32 : n ≤ 32 := by omega
  have hn0 : 0 < n := by omega
  obtain ⟨x, rfl, hxl, -⟩ := hl.l.some' hn0
  have HCL := Lib.hid (fun W (h : Below w.heap.size w W) => iclone_any _ C.live x n c W (hl.l.same h) hn0 (by omega))
  have HPD := Lib.hid (fun W (h : Below w.heap.size w W) => (show IList W (fun b => F b ∧ b < w.heap.size) a2 n2 c2 C.pend from hl.p.cut.on (Same.below h)))
  obtain ⟨-, y10, y11⟩ := has_c.1 hh1
  obtain ⟨i1, rfl⟩ : ∃ i : Nat, z1 = (i : Int) := ⟨z1.toNat, by omega⟩
  have hi1 : i1 < n := by omega
  have hi1I : (i1 : Int) < (n : Int) := by omega
  rw [decide_eq_true (show 0 ≤ (i1 : Int) ∧ (i1 : Int) < (n : Int) by omega)] at HZ1
  obtain ⟨q1, hq1⟩ : ∃ q, C.live[i1]? = some q := ⟨_, List.getElem?_eq_getElem (by omega)⟩
  have bq1 := hvv.2.1 q1 (List.mem_of_getElem? hq1)
  have hl1 : less C (i1 : Int) true = C.live.set i1 (q1 - 1) := by
    show plusL C.live ((i1 : Int)).toNat (-1) = _
    rw [Int.toNat_natCast, plus_is hq1]
    rfl
  have hw1 : IntKind.i64.wrap (q1 - 1) = q1 - 1 := IntWalk.i64_in _ (by omega)
  have hw1' : wrap64 (q1 - 1) = q1 - 1 := by unfold wrap64; omega
  have HQ1 := Lib.hid hq1
  rw [r1, r2]
  clear r1 r2 hl hvv hlen hh1 hq1 y10 y11
  obtain ⟨V, hV⟩ : ∃ V, validC (changedC C (i1 : Int) z2 true false) = V := ⟨_, rfl⟩
  rw [hV]
  have hcd : changedC C (i1 : Int) z2 true false = ⟨more (less C (i1 : Int) true) z2 false, C.pend⟩ := rfl
  rw [hcd] at hV ⊢
  clear hcd
  have hm : more (less C (i1 : Int) true) z2 false = less C (i1 : Int) true := rfl
  rw [hm] at hV ⊢
  clear hm
  have HP1 := Lib.hid hl1
  clear hl1
  generalize less C (i1 : Int) true = Z1 at *
  have HVD := Lib.hid hV
  clear hV hva
  cases V
  · skip
    go_enter Try.func14, Try.ntmps14
    generalize hw0 : (((w.alloc (cntRow (some x) n c a2 n2 c2)).alloc (entRow b1 k1 v1 m1 (i1 : Int) o1)).alloc (entRow b2 k2 v2 m2 z2 o2)).alloc (cntRow none 0 0 none 0 0) = w0 at *
    have c4 := K.oz
    have d4 := K.fz
    have e0 := (K.al (cntRow (some x) n c a2 n2 c2)).c0
    go_wp2_with (first
      | ((with_reducible refine Plan.load_lit 24 (.tmp 5) w.heap.size ?_ K.x Try.underlying24 ?_ ?_ ?_); (· rfl); (· rfl); (· exact cnt_info); simp only [Act.put, List.setIfInBounds_toArray, List.set_cons_zero, List.set_cons_succ])
      | (go_at_call 22; ((with_reducible refine (HV.out _ K.b).mono ?_); rintro r9 wl ⟨rfl, h1⟩; clear HV hw0; have K9 := K.on h1; clear K c4 d4 e0; have K := K9; clear K9 h1; have c4 := K.oz; have d4 := K.fz; have e0 := (K.al (cntRow (some x) n c a2 n2 c2)).c0))
      | ((with_reducible refine load_lit_gc 24 (.tmp 5) w.heap.size ?_ ?_ K.x Try.underlying24 ?_ ?_ ?_); (· rfl); (· rfl); (· rfl); (· exact cnt_info); simp only [Act.put, List.setIfInBounds_toArray, List.set_cons_zero, List.set_cons_succ])
      | (go_at_call 32; ((with_reducible refine (HZ1.out _).mono ?_); rintro r9 wl ⟨rfl, h1⟩; clear HZ1; have K9 := K.on h1; clear K c4 d4 e0; have K := K9; clear K9 h1; have c4 := K.oz; have d4 := K.fz; have e0 := (K.al (cntRow (some x) n c a2 n2 c2)).c0))
      | (go_at_call 33; ((with_reducible refine (HCL.out _ (K.b.alloc K.b.size (cntRow (some x) n c a2 n2 c2))).mono ?_); rintro r9 w3 ⟨g, k3, rfl, hg, hgl, own, h3⟩; have hX := e_on h3 (heap_alloc_new _ (cntRow (some x) n c a2 n2 c2)) (by simp); have hz2 := K.lt; have hgX : wl.heap.size < g := (by rw [World.size_alloc] at hg; omega); have K9 := (K.al (cntRow (some x) n c a2 n2 c2)).on h3; clear K c4 d4 e0; have K := K9; clear K9 h3 hg HCL hgl; have c4 := K.oz; have d4 := K.fz; generalize wl.heap.size = X at *))
      | ((with_reducible refine store_slice_c 22 (.tmp 52) (.tmp 51) X 0 (some ⟨g, 0, none⟩) n k3 ?_ ?_ ⟨_, (two_row hX).1⟩ (free_row_c hX) ints_info1 ?_); (· rfl); (· rfl); simp only [Act.put]; rw [setCell_eq_setRow _ _ _ _ _ _ _ hX]; simp only [List.setIfInBounds_toArray, List.set_cons_zero]; have K9 := K.row hz2 #[.slice (some ⟨g, 0, none⟩) n k3, .slice a2 n2 c2]; have hX9 := setRow_heap w3 X _ #[.slice (some ⟨g, 0, none⟩) n k3, .slice a2 n2 c2] _ _ hX; have own9 := Own.row own #[.slice (some ⟨g, 0, none⟩) n k3, .slice a2 n2 c2] (show X ≠ g by omega); clear K hX own c4 d4; generalize w3.setRow X #[.slice (some ⟨g, 0, none⟩) n k3, .slice a2 n2 c2] = w4 at *; have K := K9; have hX := hX9; have own := own9; clear K9 hX9 own9; have e0 := (two_row hX).1; have c4 := K.oz; have d4 := K.fz; have f0 := (int_own_cell own HQ1.out).1; have f1h := Lib.hid (int_own_cell own HQ1.out).2)
      | ((with_reducible refine idx_store_int 22 3 62 (.tmp 55) (.tmp 58) (.tmp 61) g i1 .i64 (q1 - 1) ?_ ?_ ?_ ⟨_, f0⟩ f1h.out Put.int_info1 ?_); (· go_simp); (· rfl); (· rfl); intro w9 e9; have own9 := e_owns_cell own i1 (.int .i64 (q1 - 1)); rw [intC_set, ← HP1.out, ← e9] at own9; have K9 := K.cell (k := i1) (show w.heap.size + 3 < g by omega) (.int .i64 (q1 - 1)); rw [← e9] at K9; have hX9 := (Below.heap_setCell _ ⟨g, i1, none⟩ (.int .i64 (q1 - 1)) X (by simp; omega)).trans hX; rw [← e9] at hX9; clear K hX own c4 d4 e0 f0 f1h e9; have K := K9; have hX := hX9; have own := own9; clear K9 hX9 own9; simp only [Act.put, List.setIfInBounds_toArray, List.set_cons_zero, List.set_cons_succ]; have e0 := (two_row hX).1; have c4 := K.oz; have d4 := K.fz; have D := chg_list HPD.out own K.b (show w.heap.size + 3 < g by omega))
      | ((with_reducible refine Plan.load_lit 24 (.tmp 12) X ?_ hX Try.underlying24 ?_ ?_ ?_); (· rfl); (· rfl); (· exact cnt_info); simp only [Act.put, List.setIfInBounds_toArray, List.set_cons_zero, List.set_cons_succ])
      | (go_at_call 34; ((with_reducible refine (ifValid_no _ _ _ _ _ _ _ _ _ _ _ _ _ _ _ D HVD.out).mono ?_); rintro r9 w6 ⟨rfl, h6⟩; have K9 := K.on h6; have D9 := D.on (Same.below h6); clear K D; have K := K9; have D := D9; clear K9 D9 h6))
      | ((with_reducible refine Plan.store_lit 24 (.tmp 10) _ (w.heap.size + 3) ?_ K.r ?_ ?_ ?_ ?_ ?_ ?_); rotate_left; (· rfl); (· rfl); (· exact cnt_info); (· rfl); (· simp [Value.oneCell']); simp only [Act.put]))
    exact bodyPost_ret (Plan.results_cell_tmp (p := 10) (q := 11) rfl _ _ _ _ _ _ _ rfl (setRow_heap _ _ _ _ _ _ K.r) Try.underlying24 rfl cnt_info) rfl ⟨_, _, _, _, _, _, rfl, HEND.out _ K.b _, below_setRow K.b (show w.heap.size ≤ w.heap.size + 3 by omega) _⟩
  · skip
    go_enter Try.func14, Try.ntmps14
    generalize hw0 : (((w.alloc (cntRow (some x) n c a2 n2 c2)).alloc (entRow b1 k1 v1 m1 (i1 : Int) o1)).alloc (entRow b2 k2 v2 m2 z2 o2)).alloc (cntRow none 0 0 none 0 0) = w0 at *
    have c4 := K.oz
    have d4 := K.fz
    have e0 := (K.al (cntRow (some x) n c a2 n2 c2)).c0
    go_wp2_with (first
      | ((with_reducible refine Plan.load_lit 24 (.tmp 5) w.heap.size ?_ K.x Try.underlying24 ?_ ?_ ?_); (· rfl); (· rfl); (· exact cnt_info); simp only [Act.put, List.setIfInBounds_toArray, List.set_cons_zero, List.set_cons_succ])
      | (go_at_call 22; ((with_reducible refine (HV.out _ K.b).mono ?_); rintro r9 wl ⟨rfl, h1⟩; clear HV hw0; have K9 := K.on h1; clear K c4 d4 e0; have K := K9; clear K9 h1; have c4 := K.oz; have d4 := K.fz; have e0 := (K.al (cntRow (some x) n c a2 n2 c2)).c0))
      | ((with_reducible refine load_lit_gc 24 (.tmp 5) w.heap.size ?_ ?_ K.x Try.underlying24 ?_ ?_ ?_); (· rfl); (· rfl); (· rfl); (· exact cnt_info); simp only [Act.put, List.setIfInBounds_toArray, List.set_cons_zero, List.set_cons_succ])
      | (go_at_call 32; ((with_reducible refine (HZ1.out _).mono ?_); rintro r9 wl ⟨rfl, h1⟩; clear HZ1; have K9 := K.on h1; clear K c4 d4 e0; have K := K9; clear K9 h1; have c4 := K.oz; have d4 := K.fz; have e0 := (K.al (cntRow (some x) n c a2 n2 c2)).c0))
      | (go_at_call 33; ((with_reducible refine (HCL.out _ (K.b.alloc K.b.size (cntRow (some x) n c a2 n2 c2))).mono ?_); rintro r9 w3 ⟨g, k3, rfl, hg, hgl, own, h3⟩; have hX := e_on h3 (heap_alloc_new _ (cntRow (some x) n c a2 n2 c2)) (by simp); have hz2 := K.lt; have hgX : wl.heap.size < g := (by rw [World.size_alloc] at hg; omega); have K9 := (K.al (cntRow (some x) n c a2 n2 c2)).on h3; clear K c4 d4 e0; have K := K9; clear K9 h3 hg HCL hgl; have c4 := K.oz; have d4 := K.fz; generalize wl.heap.size = X at *))
      | ((with_reducible refine store_slice_c 22 (.tmp 52) (.tmp 51) X 0 (some ⟨g, 0, none⟩) n k3 ?_ ?_ ⟨_, (two_row hX).1⟩ (free_row_c hX) ints_info1 ?_); (· rfl); (· rfl); simp only [Act.put]; rw [setCell_eq_setRow _ _ _ _ _ _ _ hX]; simp only [List.setIfInBounds_toArray, List.set_cons_zero]; have K9 := K.row hz2 #[.slice (some ⟨g, 0, none⟩) n k3, .slice a2 n2 c2]; have hX9 := setRow_heap w3 X _ #[.slice (some ⟨g, 0, none⟩) n k3, .slice a2 n2 c2] _ _ hX; have own9 := Own.row own #[.slice (some ⟨g, 0, none⟩) n k3, .slice a2 n2 c2] (show X ≠ g by omega); clear K hX own c4 d4; generalize w3.setRow X #[.slice (some ⟨g, 0, none⟩) n k3, .slice a2 n2 c2] = w4 at *; have K := K9; have hX := hX9; have own := own9; clear K9 hX9 own9; have e0 := (two_row hX).1; have c4 := K.oz; have d4 := K.fz; have f0 := (int_own_cell own HQ1.out).1; have f1h := Lib.hid (int_own_cell own HQ1.out).2)
      | ((with_reducible refine idx_store_int 22 3 62 (.tmp 55) (.tmp 58) (.tmp 61) g i1 .i64 (q1 - 1) ?_ ?_ ?_ ⟨_, f0⟩ f1h.out Put.int_info1 ?_); (· go_simp); (· rfl); (· rfl); intro w9 e9; have own9 := e_owns_cell own i1 (.int .i64 (q1 - 1)); rw [intC_set, ← HP1.out, ← e9] at own9; have K9 := K.cell (k := i1) (show w.heap.size + 3 < g by omega) (.int .i64 (q1 - 1)); rw [← e9] at K9; have hX9 := (Below.heap_setCell _ ⟨g, i1, none⟩ (.int .i64 (q1 - 1)) X (by simp; omega)).trans hX; rw [← e9] at hX9; clear K hX own c4 d4 e0 f0 f1h e9; have K := K9; have hX := hX9; have own := own9; clear K9 hX9 own9; simp only [Act.put, List.setIfInBounds_toArray, List.set_cons_zero, List.set_cons_succ]; have e0 := (two_row hX).1; have c4 := K.oz; have d4 := K.fz; have D := chg_list HPD.out own K.b (show w.heap.size + 3 < g by omega))
      | ((with_reducible refine Plan.load_lit 24 (.tmp 12) X ?_ hX Try.underlying24 ?_ ?_ ?_); (· rfl); (· rfl); (· exact cnt_info); simp only [Act.put, List.setIfInBounds_toArray, List.set_cons_zero, List.set_cons_succ])
      | (go_at_call 34; ((with_reducible refine (ifValid_yes _ _ _ _ _ _ _ _ _ _ _ _ _ _ _ D HVD.out).mono ?_); rintro r9 w6 ⟨rfl, h6⟩; have K9 := K.on h6; have D9 := D.on (Same.below h6); clear K D; have K := K9; have D := D9; clear K9 D9 h6))
      | ((with_reducible refine Plan.store_lit 24 (.tmp 10) _ (w.heap.size + 3) ?_ K.r ?_ ?_ ?_ ?_ ?_ ?_); rotate_left; (· rfl); (· rfl); (· exact cnt_info); (· rfl); (· simp [Value.oneCell']); simp only [Act.put]))
    exact bodyPost_ret (Plan.results_cell_tmp (p := 10) (q := 11) rfl _ _ _ _ _ _ _ rfl (setRow_heap _ _ _ _ _ _ K.r) Try.underlying24 rfl cnt_info) rfl ⟨_, _, _, _, _, _, rfl, (D.on (Same.row (r := w.heap.size + 3) (fun h => by rcases h with h | h; (· have := h.2; omega); (· omega)) _)).mono (fun b _ h => by rcases h with h | h; (· exact .inl h.1); (· exact .inr (by omega))), below_setRow K.b (show w.heap.size ≤ w.heap.size + 3 by omega) _⟩
set_option maxHeartbeats 4000000 in
set_option maxRecDepth 20000 in
theorem lchg_ft (F : Nat → Prop) (C : Cnt) (b1 k1 v1 m1 z1 o1 b2 k2 v2 m2 z2 o2 : Int) (a a2 : Option Addr) (n c n2 c2 : Nat) (w : World) (hl : CList w F a n c a2 n2 c2 C) (hva : validC C = true) (hh2 : hasC C z2 = true) :
    Calls Try.prog 14 #[cntV a n c a2 n2 c2, entV ⟨b1, k1, v1, m1, z1, o1⟩, entV ⟨b2, k2, v2, m2, z2, o2⟩, .bool false, .bool true] w (CntPost w F (changeC C z1 z2 false true) (changeB C z1 z2 false true)) := by
  have K := ChgW.start w (cntRow a n c a2 n2 c2) (entRow b1 k1 v1 m1 z1 o1) (entRow b2 k2 v2 m2 z2 o2)
  have HV := Lib.hid (fun W (h : Below w.heap.size w W) => lvalid_any _ C a a2 n c n2 c2 W (hl.same h))
  have HZ1 := Lib.hid (fun W => isZone_any z1 a a2 n c n2 c2 W)
  have HZ2 := Lib.hid (fun W => isZone_any z2 a a2 n c n2 c2 W)
  have HEND := Lib.hid (fun W (h : Below w.heap.size w W) (cs : Array Value) => (show CList (W.setRow (w.heap.size + 3) cs) (Plus F w.heap.size) a n c a2 n2 c2 C from
    ((hl.cut.on (Same.below (w' := W) h)).on (Same.row (r := w.heap.size + 3) (fun h9 => by have := h9.2; omega) cs)).mono (fun b _ h => .inl h.1)))
  obtain ⟨r1, r2⟩ := change_yes (C := C) (o := z1) (f := z2) (had := false) (is := true) (by unfold asksC; rw [hva, hh2]; rfl)
  rw [hva] at HV
  have hlen := hl.l.length
  have hvv := valid_c.1 hva
  have hn32 : n ≤ 32 := by omega
  have hn0 : 0 < n := by omega
  obtain ⟨x, rfl, hxl, -⟩ := hl.l.some' hn0
  have HCL := Lib.hid (fun W (h : Below w.heap.size w W) => iclone_any _ C.live x n c W (hl.l.same h) hn0 (by omega))
  have HPD := Lib.hid (fun W (h : Below w.heap.size w W) => (show IList W (fun b => F b ∧ b < w.heap.size) a2 n2 c2 C.pend from hl.p.cut.on (Same.below h)))
  obtain ⟨-, y20, y21⟩ := has_c.1 hh2
  obtain ⟨i2, rfl⟩ : ∃ i : Nat, z2 = (i : Int) := ⟨z2.toNat, by omega⟩
  have hi2 : i2 < n := by omega
  have hi2I : (i2 : Int) < (n : Int) := by omega
  rw [decide_eq_true (show 0 ≤ (i2 : Int) ∧ (i2 : Int) < (n : Int) by omega)] at HZ2
  obtain ⟨q2, hq2, bq2⟩ := less_at (C := C) (o := z1) (had := false) (k := i2) hva (by omega)
  have hq2 : (C.live)[i2]? = some q2 := hq2
  have hl2 : more (C.live) (i2 : Int) true = (C.live).set i2 (q2 + 1) := by
    show plusL (C.live) ((i2 : Int)).toNat 1 = _
    rw [Int.toNat_natCast, plus_is hq2]
  have hw2 : IntKind.i64.wrap (q2 + 1) = q2 + 1 := IntWalk.i64_in _ (by omega)
  have hw2' : wrap64 (q2 + 1) = q2 + 1 := by unfold wrap64; omega
  have HQ2 := Lib.hid hq2
  rw [r1, r2]
  clear r1 r2 hl hvv hlen hh2 hq2 y20 y21
  obtain ⟨V, hV⟩ : ∃ V, validC (changedC C z1 (i2 : Int) false true) = V := ⟨_, rfl⟩
  rw [hV]
  have hcd : changedC C z1 (i2 : Int) false true = ⟨more (less C z1 false) (i2 : Int) true, C.pend⟩ := rfl
  rw [hcd] at hV ⊢
  clear hcd
  have hm : less C z1 false = C.live := rfl
  rw [hm] at hV ⊢
  clear hm
  have HP2 := Lib.hid hl2
  clear hl2
  generalize more (C.live) (i2 : Int) true = Z2 at *
  have HVD := Lib.hid hV
  clear hV hva
  cases V
  · skip
    go_enter Try.func14, Try.ntmps14
    generalize hw0 : (((w.alloc (cntRow (some x) n c a2 n2 c2)).alloc (entRow b1 k1 v1 m1 z1 o1)).alloc (entRow b2 k2 v2 m2 (i2 : Int) o2)).alloc (cntRow none 0 0 none 0 0) = w0 at *
    have c4 := K.oz
    have d4 := K.fz
    have e0 := (K.al (cntRow (some x) n c a2 n2 c2)).c0
    go_wp2_with (first
      | ((with_reducible refine Plan.load_lit 24 (.tmp 5) w.heap.size ?_ K.x Try.underlying24 ?_ ?_ ?_); (· rfl); (· rfl); (· exact cnt_info); simp only [Act.put, List.setIfInBounds_toArray, List.set_cons_zero, List.set_cons_succ])
      | (go_at_call 22; ((with_reducible refine (HV.out _ K.b).mono ?_); rintro r9 wl ⟨rfl, h1⟩; clear HV hw0; have K9 := K.on h1; clear K c4 d4 e0; have K := K9; clear K9 h1; have c4 := K.oz; have d4 := K.fz; have e0 := (K.al (cntRow (some x) n c a2 n2 c2)).c0))
      | ((with_reducible refine load_lit_gc 24 (.tmp 5) w.heap.size ?_ ?_ K.x Try.underlying24 ?_ ?_ ?_); (· rfl); (· rfl); (· rfl); (· exact cnt_info); simp only [Act.put, List.setIfInBounds_toArray, List.set_cons_zero, List.set_cons_succ])
      | (go_at_call 32; ((with_reducible refine (HZ2.out _).mono ?_); rintro r9 wl ⟨rfl, h1⟩; clear HZ2; have K9 := K.on h1; clear K c4 d4 e0; have K := K9; clear K9 h1; have c4 := K.oz; have d4 := K.fz; have e0 := (K.al (cntRow (some x) n c a2 n2 c2)).c0))
      | (go_at_call 33; ((with_reducible refine (HCL.out _ (K.b.alloc K.b.size (cntRow (some x) n c a2 n2 c2))).mono ?_); rintro r9 w3 ⟨g, k3, rfl, hg, hgl, own, h3⟩; have hX := e_on h3 (heap_alloc_new _ (cntRow (some x) n c a2 n2 c2)) (by simp); have hz2 := K.lt; have hgX : wl.heap.size < g := (by rw [World.size_alloc] at hg; omega); have K9 := (K.al (cntRow (some x) n c a2 n2 c2)).on h3; clear K c4 d4 e0; have K := K9; clear K9 h3 hg HCL hgl; have c4 := K.oz; have d4 := K.fz; generalize wl.heap.size = X at *))
      | ((with_reducible refine store_slice_c 22 (.tmp 52) (.tmp 51) X 0 (some ⟨g, 0, none⟩) n k3 ?_ ?_ ⟨_, (two_row hX).1⟩ (free_row_c hX) ints_info1 ?_); (· rfl); (· rfl); simp only [Act.put]; rw [setCell_eq_setRow _ _ _ _ _ _ _ hX]; simp only [List.setIfInBounds_toArray, List.set_cons_zero]; have K9 := K.row hz2 #[.slice (some ⟨g, 0, none⟩) n k3, .slice a2 n2 c2]; have hX9 := setRow_heap w3 X _ #[.slice (some ⟨g, 0, none⟩) n k3, .slice a2 n2 c2] _ _ hX; have own9 := Own.row own #[.slice (some ⟨g, 0, none⟩) n k3, .slice a2 n2 c2] (show X ≠ g by omega); clear K hX own c4 d4; generalize w3.setRow X #[.slice (some ⟨g, 0, none⟩) n k3, .slice a2 n2 c2] = w4 at *; have K := K9; have hX := hX9; have own := own9; clear K9 hX9 own9; have e0 := (two_row hX).1; have c4 := K.oz; have d4 := K.fz; have f0 := (int_own_cell own HQ2.out).1; have f1h := Lib.hid (int_own_cell own HQ2.out).2)
      | ((with_reducible refine idx_store_int 22 3 72 (.tmp 65) (.tmp 68) (.tmp 71) g i2 .i64 (q2 + 1) ?_ ?_ ?_ ⟨_, f0⟩ f1h.out Put.int_info1 ?_); (· go_simp); (· rfl); (· rfl); intro w9 e9; have own9 := e_owns_cell own i2 (.int .i64 (q2 + 1)); rw [intC_set, ← HP2.out, ← e9] at own9; have K9 := K.cell (k := i2) (show w.heap.size + 3 < g by omega) (.int .i64 (q2 + 1)); rw [← e9] at K9; have hX9 := (Below.heap_setCell _ ⟨g, i2, none⟩ (.int .i64 (q2 + 1)) X (by simp; omega)).trans hX; rw [← e9] at hX9; clear K hX own c4 d4 e0 f0 f1h e9; have K := K9; have hX := hX9; have own := own9; clear K9 hX9 own9; simp only [Act.put, List.setIfInBounds_toArray, List.set_cons_zero, List.set_cons_succ]; have e0 := (two_row hX).1; have c4 := K.oz; have d4 := K.fz; have D := chg_list HPD.out own K.b (show w.heap.size + 3 < g by omega))
      | ((with_reducible refine Plan.load_lit 24 (.tmp 12) X ?_ hX Try.underlying24 ?_ ?_ ?_); (· rfl); (· rfl); (· exact cnt_info); simp only [Act.put, List.setIfInBounds_toArray, List.set_cons_zero, List.set_cons_succ])
      | (go_at_call 34; ((with_reducible refine (ifValid_no _ _ _ _ _ _ _ _ _ _ _ _ _ _ _ D HVD.out).mono ?_); rintro r9 w6 ⟨rfl, h6⟩; have K9 := K.on h6; have D9 := D.on (Same.below h6); clear K D; have K := K9; have D := D9; clear K9 D9 h6))
      | ((with_reducible refine Plan.store_lit 24 (.tmp 10) _ (w.heap.size + 3) ?_ K.r ?_ ?_ ?_ ?_ ?_ ?_); rotate_left; (· rfl); (· rfl); (· exact cnt_info); (· rfl); (· simp [Value.oneCell']); simp only [Act.put]))
    exact bodyPost_ret (Plan.results_cell_tmp (p := 10) (q := 11) rfl _ _ _ _ _ _ _ rfl (setRow_heap _ _ _ _ _ _ K.r) Try.underlying24 rfl cnt_info) rfl ⟨_, _, _, _, _, _, rfl, HEND.out _ K.b _, below_setRow K.b (show w.heap.size ≤ w.heap.size + 3 by omega) _⟩
  · skip
    go_enter Try.func14, Try.ntmps14
    generalize hw0 : (((w.alloc (cntRow (some x) n c a2 n2 c2)).alloc (entRow b1 k1 v1 m1 z1 o1)).alloc (entRow b2 k2 v2 m2 (i2 : Int) o2)).alloc (cntRow none 0 0 none 0 0) = w0 at *
    have c4 := K.oz
    have d4 := K.fz
    have e0 := (K.al (cntRow (some x) n c a2 n2 c2)).c0
    go_wp2_with (first
      | ((with_reducible refine Plan.load_lit 24 (.tmp 5) w.heap.size ?_ K.x Try.underlying24 ?_ ?_ ?_); (· rfl); (· rfl); (· exact cnt_info); simp only [Act.put, List.setIfInBounds_toArray, List.set_cons_zero, List.set_cons_succ])
      | (go_at_call 22; ((with_reducible refine (HV.out _ K.b).mono ?_); rintro r9 wl ⟨rfl, h1⟩; clear HV hw0; have K9 := K.on h1; clear K c4 d4 e0; have K := K9; clear K9 h1; have c4 := K.oz; have d4 := K.fz; have e0 := (K.al (cntRow (some x) n c a2 n2 c2)).c0))
      | ((with_reducible refine load_lit_gc 24 (.tmp 5) w.heap.size ?_ ?_ K.x Try.underlying24 ?_ ?_ ?_); (· rfl); (· rfl); (· rfl); (· exact cnt_info); simp only [Act.put, List.setIfInBounds_toArray, List.set_cons_zero, List.set_cons_succ])
      | (go_at_call 32; ((with_reducible refine (HZ2.out _).mono ?_); rintro r9 wl ⟨rfl, h1⟩; clear HZ2; have K9 := K.on h1; clear K c4 d4 e0; have K := K9; clear K9 h1; have c4 := K.oz; have d4 := K.fz; have e0 := (K.al (cntRow (some x) n c a2 n2 c2)).c0))
      | (go_at_call 33; ((with_reducible refine (HCL.out _ (K.b.alloc K.b.size (cntRow (some x) n c a2 n2 c2))).mono ?_); rintro r9 w3 ⟨g, k3, rfl, hg, hgl, own, h3⟩; have hX := e_on h3 (heap_alloc_new _ (cntRow (some x) n c a2 n2 c2)) (by simp); have hz2 := K.lt; have hgX : wl.heap.size < g := (by rw [World.size_alloc] at hg; omega); have K9 := (K.al (cntRow (some x) n c a2 n2 c2)).on h3; clear K c4 d4 e0; have K := K9; clear K9 h3 hg HCL hgl; have c4 := K.oz; have d4 := K.fz; generalize wl.heap.size = X at *))
      | ((with_reducible refine store_slice_c 22 (.tmp 52) (.tmp 51) X 0 (some ⟨g, 0, none⟩) n k3 ?_ ?_ ⟨_, (two_row hX).1⟩ (free_row_c hX) ints_info1 ?_); (· rfl); (· rfl); simp only [Act.put]; rw [setCell_eq_setRow _ _ _ _ _ _ _ hX]; simp only [List.setIfInBounds_toArray, List.set_cons_zero]; have K9 := K.row hz2 #[.slice (some ⟨g, 0, none⟩) n k3, .slice a2 n2 c2]; have hX9 := setRow_heap w3 X _ #[.slice (some ⟨g, 0, none⟩) n k3, .slice a2 n2 c2] _ _ hX; have own9 := Own.row own #[.slice (some ⟨g, 0, none⟩) n k3, .slice a2 n2 c2] (show X ≠ g by omega); clear K hX own c4 d4; generalize w3.setRow X #[.slice (some ⟨g, 0, none⟩) n k3, .slice a2 n2 c2] = w4 at *; have K := K9; have hX := hX9; have own := own9; clear K9 hX9 own9; have e0 := (two_row hX).1; have c4 := K.oz; have d4 := K.fz; have f0 := (int_own_cell own HQ2.out).1; have f1h := Lib.hid (int_own_cell own HQ2.out).2)
      | ((with_reducible refine idx_store_int 22 3 72 (.tmp 65) (.tmp 68) (.tmp 71) g i2 .i64 (q2 + 1) ?_ ?_ ?_ ⟨_, f0⟩ f1h.out Put.int_info1 ?_); (· go_simp); (· rfl); (· rfl); intro w9 e9; have own9 := e_owns_cell own i2 (.int .i64 (q2 + 1)); rw [intC_set, ← HP2.out, ← e9] at own9; have K9 := K.cell (k := i2) (show w.heap.size + 3 < g by omega) (.int .i64 (q2 + 1)); rw [← e9] at K9; have hX9 := (Below.heap_setCell _ ⟨g, i2, none⟩ (.int .i64 (q2 + 1)) X (by simp; omega)).trans hX; rw [← e9] at hX9; clear K hX own c4 d4 e0 f0 f1h e9; have K := K9; have hX := hX9; have own := own9; clear K9 hX9 own9; simp only [Act.put, List.setIfInBounds_toArray, List.set_cons_zero, List.set_cons_succ]; have e0 := (two_row hX).1; have c4 := K.oz; have d4 := K.fz; have D := chg_list HPD.out own K.b (show w.heap.size + 3 < g by omega))
      | ((with_reducible refine Plan.load_lit 24 (.tmp 12) X ?_ hX Try.underlying24 ?_ ?_ ?_); (· rfl); (· rfl); (· exact cnt_info); simp only [Act.put, List.setIfInBounds_toArray, List.set_cons_zero, List.set_cons_succ])
      | (go_at_call 34; ((with_reducible refine (ifValid_yes _ _ _ _ _ _ _ _ _ _ _ _ _ _ _ D HVD.out).mono ?_); rintro r9 w6 ⟨rfl, h6⟩; have K9 := K.on h6; have D9 := D.on (Same.below h6); clear K D; have K := K9; have D := D9; clear K9 D9 h6))
      | ((with_reducible refine Plan.store_lit 24 (.tmp 10) _ (w.heap.size + 3) ?_ K.r ?_ ?_ ?_ ?_ ?_ ?_); rotate_left; (· rfl); (· rfl); (· exact cnt_info); (· rfl); (· simp [Value.oneCell']); simp only [Act.put]))
    exact bodyPost_ret (Plan.results_cell_tmp (p := 10) (q := 11) rfl _ _ _ _ _ _ _ rfl (setRow_heap _ _ _ _ _ _ K.r) Try.underlying24 rfl cnt_info) rfl ⟨_, _, _, _, _, _, rfl, (D.on (Same.row (r := w.heap.size + 3) (fun h => by rcases h with h | h; (· have := h.2; omega); (· omega)) _)).mono (fun b _ h => by rcases h with h | h; (· exact .inl h.1); (· exact .inr (by omega))), below_setRow K.b (show w.heap.size ≤ w.heap.size + 3 by omega) _⟩
set_option maxHeartbeats 4000000 in
set_option maxRecDepth 20000 in
theorem lchg_tt (F : Nat → Prop) (C : Cnt) (b1 k1 v1 m1 z1 o1 b2 k2 v2 m2 z2 o2 : Int) (a a2 : Option Addr) (n c n2 c2 : Nat) (w : World) (hl : CList w F a n c a2 n2 c2 C) (hva : validC C = true) (hh1 : hasC C z1 = true) (hh2 : hasC C z2 = true) :
    Calls Try.prog 14 #[cntV a n c a2 n2 c2, entV ⟨b1, k1, v1, m1, z1, o1⟩, entV ⟨b2, k2, v2, m2, z2, o2⟩, .bool true, .bool true] w (CntPost w F (changeC C z1 z2 true true) (changeB C z1 z2 true true)) := by
  have K := ChgW.start w (cntRow a n c a2 n2 c2) (entRow b1 k1 v1 m1 z1 o1) (entRow b2 k2 v2 m2 z2 o2)
  have HV := Lib.hid (fun W (h : Below w.heap.size w W) => lvalid_any _ C a a2 n c n2 c2 W (hl.same h))
  have HZ1 := Lib.hid (fun W => isZone_any z1 a a2 n c n2 c2 W)
  have HZ2 := Lib.hid (fun W => isZone_any z2 a a2 n c n2 c2 W)
  have HEND := Lib.hid (fun W (h : Below w.heap.size w W) (cs : Array Value) => (show CList (W.setRow (w.heap.size + 3) cs) (Plus F w.heap.size) a n c a2 n2 c2 C from
    ((hl.cut.on (Same.below (w' := W) h)).on (Same.row (r := w.heap.size + 3) (fun h9 => by have := h9.2; omega) cs)).mono (fun b _ h => .inl h.1)))
  obtain ⟨r1, r2⟩ := change_yes (C := C) (o := z1) (f := z2) (had := true) (is := true) (by unfold asksC; rw [hva, hh1, hh2]; rfl)
  rw [hva] at HV
  have hlen := hl.l.length
  have hvv := valid_c.1 hva
  have hn32 : n ≤ 32 := by omega
  have hn0 : 0 < n := by omega
  obtain ⟨x, rfl, hxl, -⟩ := hl.l.some' hn0
  have HCL := Lib.hid (fun W (h : Below w.heap.size w W) => iclone_any _ C.live x n c W (hl.l.same h) hn0 (by omega))
  have HPD := Lib.hid (fun W (h : Below w.heap.size w W) => (show IList W (fun b => F b ∧ b < w.heap.size) a2 n2 c2 C.pend from hl.p.cut.on (Same.below h)))
  by_cases hE : (⟨b1, k1, v1, m1, z1, o1⟩ : Ent) = ⟨b2, k2, v2, m2, z2, o2⟩
  · have hEQ := fun W => ent_eql ⟨b1, k1, v1, m1, z1, o1⟩ ⟨b2, k2, v2, m2, z2, o2⟩ W
    rw [decide_eq_true hE] at hEQ
    have hz : z1 = z2 := congrArg Ent.zone hE
    have hsame := chg_same (C := C) (z := z1) (b := true) (fun _ => hh1)
    rw [hz] at hsame
    rw [r1, r2]
    rw [hz, hsame, hva, if_pos rfl]
    rw [hz] at HZ1
    clear hsame r1 r2
    have hd2 : decide (0 ≤ z2 ∧ z2 < (n : Int)) = true := by have := has_c.1 hh2; exact decide_eq_true (by omega)
    have HZ2 := HZ1
    rw [hd2] at HZ1 HZ2
    clear hd2 hh1 hh2
    subst hz
    clear hE hl hva hvv hlen
    go_enter Try.func14, Try.ntmps14
    generalize hw0 : (((w.alloc (cntRow (some x) n c a2 n2 c2)).alloc (entRow b1 k1 v1 m1 z1 o1)).alloc (entRow b2 k2 v2 m2 z1 o2)).alloc (cntRow none 0 0 none 0 0) = w0 at *
    have c4 := K.oz
    have d4 := K.fz
    have e0 := (K.al (cntRow (some x) n c a2 n2 c2)).c0
    go_wp2_with (first
      | ((with_reducible refine Plan.load_lit 24 (.tmp 5) w.heap.size ?_ K.x Try.underlying24 ?_ ?_ ?_); (· rfl); (· rfl); (· exact cnt_info); simp only [Act.put, List.setIfInBounds_toArray, List.set_cons_zero, List.set_cons_succ])
      | (go_at_call 22; ((with_reducible refine (HV.out _ K.b).mono ?_); rintro r9 wl ⟨rfl, h1⟩; clear HV hw0; have K9 := K.on h1; clear K c4 d4 e0; have K := K9; clear K9 h1; have c4 := K.oz; have d4 := K.fz; have e0 := (K.al (cntRow (some x) n c a2 n2 c2)).c0))
      | ((with_reducible refine load_lit_gc 24 (.tmp 5) w.heap.size ?_ ?_ K.x Try.underlying24 ?_ ?_ ?_); (· rfl); (· rfl); (· rfl); (· exact cnt_info); simp only [Act.put, List.setIfInBounds_toArray, List.set_cons_zero, List.set_cons_succ])
      | (go_at_call 32; ((with_reducible refine (HZ1.out _).mono ?_); rintro r9 wl ⟨rfl, h1⟩; clear HZ1; have K9 := K.on h1; clear K c4 d4 e0; have K := K9; clear K9 h1; have c4 := K.oz; have d4 := K.fz; have e0 := (K.al (cntRow (some x) n c a2 n2 c2)).c0))
      | (go_at_call 32; ((with_reducible refine (HZ2.out _).mono ?_); rintro r9 wl ⟨rfl, h1⟩; clear HZ2; have K9 := K.on h1; clear K c4 d4 e0; have K := K9; clear K9 h1; have c4 := K.oz; have d4 := K.fz; have e0 := (K.al (cntRow (some x) n c a2 n2 c2)).c0))
      | ((with_reducible refine load_lit_gc 28 (.tmp 6) (w.heap.size + 1) ?_ ?_ K.o Try.underlying28 ?_ ?_ ?_); (· rfl); (· rfl); (· rfl); (· exact entry_info); simp only [Act.put, List.setIfInBounds_toArray, List.set_cons_zero, List.set_cons_succ])
      | ((with_reducible refine load_lit_gc 28 (.tmp 7) (w.heap.size + 2) ?_ ?_ K.f Try.underlying28 ?_ ?_ ?_); (· rfl); (· rfl); (· rfl); (· exact entry_info); simp only [Act.put, List.setIfInBounds_toArray, List.set_cons_zero, List.set_cons_succ])
      | ((with_reducible refine Plan.store_lit 24 (.tmp 10) _ (w.heap.size + 3) ?_ K.r ?_ ?_ ?_ ?_ ?_ ?_); rotate_left; (· rfl); (· rfl); (· exact cnt_info); (· rfl); (· simp [Value.oneCell']); simp only [Act.put]))
    exact bodyPost_ret (Plan.results_cell_tmp (p := 10) (q := 11) rfl _ _ _ _ _ _ _ rfl (setRow_heap _ _ _ _ _ _ K.r) Try.underlying24 rfl cnt_info) rfl ⟨_, _, _, _, _, _, rfl, HEND.out _ K.b _, below_setRow K.b (show w.heap.size ≤ w.heap.size + 3 by omega) _⟩
  · have hEQ := fun W => ent_eql ⟨b1, k1, v1, m1, z1, o1⟩ ⟨b2, k2, v2, m2, z2, o2⟩ W
    rw [decide_eq_false hE] at hEQ
    clear hE
    obtain ⟨-, y10, y11⟩ := has_c.1 hh1
    obtain ⟨i1, rfl⟩ : ∃ i : Nat, z1 = (i : Int) := ⟨z1.toNat, by omega⟩
    have hi1 : i1 < n := by omega
    have hi1I : (i1 : Int) < (n : Int) := by omega
    rw [decide_eq_true (show 0 ≤ (i1 : Int) ∧ (i1 : Int) < (n : Int) by omega)] at HZ1
    obtain ⟨q1, hq1⟩ : ∃ q, C.live[i1]? = some q := ⟨_, List.getElem?_eq_getElem (by omega)⟩
    have bq1 := hvv.2.1 q1 (List.mem_of_getElem? hq1)
    have hl1 : less C (i1 : Int) true = C.live.set i1 (q1 - 1) := by
      show plusL C.live ((i1 : Int)).toNat (-1) = _
      rw [Int.toNat_natCast, plus_is hq1]
      rfl
    have hw1 : IntKind.i64.wrap (q1 - 1) = q1 - 1 := IntWalk.i64_in _ (by omega)
    have hw1' : wrap64 (q1 - 1) = q1 - 1 := by unfold wrap64; omega
    have HQ1 := Lib.hid hq1
    obtain ⟨-, y20, y21⟩ := has_c.1 hh2
    obtain ⟨i2, rfl⟩ : ∃ i : Nat, z2 = (i : Int) := ⟨z2.toNat, by omega⟩
    have hi2 : i2 < n := by omega
    have hi2I : (i2 : Int) < (n : Int) := by omega
    rw [decide_eq_true (show 0 ≤ (i2 : Int) ∧ (i2 : Int) < (n : Int) by omega)] at HZ2
    obtain ⟨q2, hq2, bq2⟩ := less_at (C := C) (o := (i1 : Int)) (had := true) (k := i2) hva (by omega)
    have hq2 : (less C (i1 : Int) true)[i2]? = some q2 := hq2
    have hl2 : more (less C (i1 : Int) true) (i2 : Int) true = (less C (i1 : Int) true).set i2 (q2 + 1) := by
      show plusL (less C (i1 : Int) true) ((i2 : Int)).toNat 1 = _
      rw [Int.toNat_natCast, plus_is hq2]
    have hw2 : IntKind.i64.wrap (q2 + 1) = q2 + 1 := IntWalk.i64_in _ (by omega)
    have hw2' : wrap64 (q2 + 1) = q2 + 1 := by unfold wrap64; omega
    have HQ2 := Lib.hid hq2
    rw [r1, r2]
    clear r1 r2 hl hvv hlen hh1 hq1 y10 y11 hh2 hq2 y20 y21
    obtain ⟨V, hV⟩ : ∃ V, validC (changedC C (i1 : Int) (i2 : Int) true true) = V := ⟨_, rfl⟩
    rw [hV]
    have hcd : changedC C (i1 : Int) (i2 : Int) true true = ⟨more (less C (i1 : Int) true) (i2 : Int) true, C.pend⟩ := rfl
    rw [hcd] at hV ⊢
    clear hcd
    have HP1 := Lib.hid hl1
    clear hl1
    have HP2 := Lib.hid hl2
    clear hl2
    generalize more (less C (i1 : Int) true) (i2 : Int) true = Z2 at *
    generalize less C (i1 : Int) true = Z1 at *
    have HVD := Lib.hid hV
    clear hV hva
    cases V
    · skip
      go_enter Try.func14, Try.ntmps14
      generalize hw0 : (((w.alloc (cntRow (some x) n c a2 n2 c2)).alloc (entRow b1 k1 v1 m1 (i1 : Int) o1)).alloc (entRow b2 k2 v2 m2 (i2 : Int) o2)).alloc (cntRow none 0 0 none 0 0) = w0 at *
      have c4 := K.oz
      have d4 := K.fz
      have e0 := (K.al (cntRow (some x) n c a2 n2 c2)).c0
      go_wp2_with (first
        | ((with_reducible refine Plan.load_lit 24 (.tmp 5) w.heap.size ?_ K.x Try.underlying24 ?_ ?_ ?_); (· rfl); (· rfl); (· exact cnt_info); simp only [Act.put, List.setIfInBounds_toArray, List.set_cons_zero, List.set_cons_succ])
        | (go_at_call 22; ((with_reducible refine (HV.out _ K.b).mono ?_); rintro r9 wl ⟨rfl, h1⟩; clear HV hw0; have K9 := K.on h1; clear K c4 d4 e0; have K := K9; clear K9 h1; have c4 := K.oz; have d4 := K.fz; have e0 := (K.al (cntRow (some x) n c a2 n2 c2)).c0))
        | ((with_reducible refine load_lit_gc 24 (.tmp 5) w.heap.size ?_ ?_ K.x Try.underlying24 ?_ ?_ ?_); (· rfl); (· rfl); (· rfl); (· exact cnt_info); simp only [Act.put, List.setIfInBounds_toArray, List.set_cons_zero, List.set_cons_succ])
        | (go_at_call 32; ((with_reducible refine (HZ1.out _).mono ?_); rintro r9 wl ⟨rfl, h1⟩; clear HZ1; have K9 := K.on h1; clear K c4 d4 e0; have K := K9; clear K9 h1; have c4 := K.oz; have d4 := K.fz; have e0 := (K.al (cntRow (some x) n c a2 n2 c2)).c0))
        | (go_at_call 32; ((with_reducible refine (HZ2.out _).mono ?_); rintro r9 wl ⟨rfl, h1⟩; clear HZ2; have K9 := K.on h1; clear K c4 d4 e0; have K := K9; clear K9 h1; have c4 := K.oz; have d4 := K.fz; have e0 := (K.al (cntRow (some x) n c a2 n2 c2)).c0))
        | ((with_reducible refine load_lit_gc 28 (.tmp 6) (w.heap.size + 1) ?_ ?_ K.o Try.underlying28 ?_ ?_ ?_); (· rfl); (· rfl); (· rfl); (· exact entry_info); simp only [Act.put, List.setIfInBounds_toArray, List.set_cons_zero, List.set_cons_succ])
        | ((with_reducible refine load_lit_gc 28 (.tmp 7) (w.heap.size + 2) ?_ ?_ K.f Try.underlying28 ?_ ?_ ?_); (· rfl); (· rfl); (· rfl); (· exact entry_info); simp only [Act.put, List.setIfInBounds_toArray, List.set_cons_zero, List.set_cons_succ])
        | (go_at_call 33; ((with_reducible refine (HCL.out _ (K.b.alloc K.b.size (cntRow (some x) n c a2 n2 c2))).mono ?_); rintro r9 w3 ⟨g, k3, rfl, hg, hgl, own, h3⟩; have hX := e_on h3 (heap_alloc_new _ (cntRow (some x) n c a2 n2 c2)) (by simp); have hz2 := K.lt; have hgX : wl.heap.size < g := (by rw [World.size_alloc] at hg; omega); have K9 := (K.al (cntRow (some x) n c a2 n2 c2)).on h3; clear K c4 d4 e0; have K := K9; clear K9 h3 hg HCL hgl; have c4 := K.oz; have d4 := K.fz; generalize wl.heap.size = X at *))
        | ((with_reducible refine store_slice_c 22 (.tmp 52) (.tmp 51) X 0 (some ⟨g, 0, none⟩) n k3 ?_ ?_ ⟨_, (two_row hX).1⟩ (free_row_c hX) ints_info1 ?_); (· rfl); (· rfl); simp only [Act.put]; rw [setCell_eq_setRow _ _ _ _ _ _ _ hX]; simp only [List.setIfInBounds_toArray, List.set_cons_zero]; have K9 := K.row hz2 #[.slice (some ⟨g, 0, none⟩) n k3, .slice a2 n2 c2]; have hX9 := setRow_heap w3 X _ #[.slice (some ⟨g, 0, none⟩) n k3, .slice a2 n2 c2] _ _ hX; have own9 := Own.row own #[.slice (some ⟨g, 0, none⟩) n k3, .slice a2 n2 c2] (show X ≠ g by omega); clear K hX own c4 d4; generalize w3.setRow X #[.slice (some ⟨g, 0, none⟩) n k3, .slice a2 n2 c2] = w4 at *; have K := K9; have hX := hX9; have own := own9; clear K9 hX9 own9; have e0 := (two_row hX).1; have c4 := K.oz; have d4 := K.fz; have f0 := (int_own_cell own HQ1.out).1; have f1h := Lib.hid (int_own_cell own HQ1.out).2)
        | ((with_reducible refine idx_store_int 22 3 62 (.tmp 55) (.tmp 58) (.tmp 61) g i1 .i64 (q1 - 1) ?_ ?_ ?_ ⟨_, f0⟩ f1h.out Put.int_info1 ?_); (· go_simp); (· rfl); (· rfl); intro w9 e9; have own9 := e_owns_cell own i1 (.int .i64 (q1 - 1)); rw [intC_set, ← HP1.out, ← e9] at own9; have K9 := K.cell (k := i1) (show w.heap.size + 3 < g by omega) (.int .i64 (q1 - 1)); rw [← e9] at K9; have hX9 := (Below.heap_setCell _ ⟨g, i1, none⟩ (.int .i64 (q1 - 1)) X (by simp; omega)).trans hX; rw [← e9] at hX9; clear K hX own c4 d4 e0 f0 f1h e9; have K := K9; have hX := hX9; have own := own9; clear K9 hX9 own9; simp only [Act.put, List.setIfInBounds_toArray, List.set_cons_zero, List.set_cons_succ]; have e0 := (two_row hX).1; have c4 := K.oz; have d4 := K.fz; have f0 := (int_own_cell own HQ2.out).1; have f1h := Lib.hid (int_own_cell own HQ2.out).2)
        | ((with_reducible refine idx_store_int 22 3 72 (.tmp 65) (.tmp 68) (.tmp 71) g i2 .i64 (q2 + 1) ?_ ?_ ?_ ⟨_, f0⟩ f1h.out Put.int_info1 ?_); (· go_simp); (· rfl); (· rfl); intro w9 e9; have own9 := e_owns_cell own i2 (.int .i64 (q2 + 1)); rw [intC_set, ← HP2.out, ← e9] at own9; have K9 := K.cell (k := i2) (show w.heap.size + 3 < g by omega) (.int .i64 (q2 + 1)); rw [← e9] at K9; have hX9 := (Below.heap_setCell _ ⟨g, i2, none⟩ (.int .i64 (q2 + 1)) X (by simp; omega)).trans hX; rw [← e9] at hX9; clear K hX own c4 d4 e0 f0 f1h e9; have K := K9; have hX := hX9; have own := own9; clear K9 hX9 own9; simp only [Act.put, List.setIfInBounds_toArray, List.set_cons_zero, List.set_cons_succ]; have e0 := (two_row hX).1; have c4 := K.oz; have d4 := K.fz; have D := chg_list HPD.out own K.b (show w.heap.size + 3 < g by omega))
        | ((with_reducible refine Plan.load_lit 24 (.tmp 12) X ?_ hX Try.underlying24 ?_ ?_ ?_); (· rfl); (· rfl); (· exact cnt_info); simp only [Act.put, List.setIfInBounds_toArray, List.set_cons_zero, List.set_cons_succ])
        | (go_at_call 34; ((with_reducible refine (ifValid_no _ _ _ _ _ _ _ _ _ _ _ _ _ _ _ D HVD.out).mono ?_); rintro r9 w6 ⟨rfl, h6⟩; have K9 := K.on h6; have D9 := D.on (Same.below h6); clear K D; have K := K9; have D := D9; clear K9 D9 h6))
        | ((with_reducible refine Plan.store_lit 24 (.tmp 10) _ (w.heap.size + 3) ?_ K.r ?_ ?_ ?_ ?_ ?_ ?_); rotate_left; (· rfl); (· rfl); (· exact cnt_info); (· rfl); (· simp [Value.oneCell']); simp only [Act.put]))
      exact bodyPost_ret (Plan.results_cell_tmp (p := 10) (q := 11) rfl _ _ _ _ _ _ _ rfl (setRow_heap _ _ _ _ _ _ K.r) Try.underlying24 rfl cnt_info) rfl ⟨_, _, _, _, _, _, rfl, HEND.out _ K.b _, below_setRow K.b (show w.heap.size ≤ w.heap.size + 3 by omega) _⟩
    · skip
      go_enter Try.func14, Try.ntmps14
      generalize hw0 : (((w.alloc (cntRow (some x) n c a2 n2 c2)).alloc (entRow b1 k1 v1 m1 (i1 : Int) o1)).alloc (entRow b2 k2 v2 m2 (i2 : Int) o2)).alloc (cntRow none 0 0 none 0 0) = w0 at *
      have c4 := K.oz
      have d4 := K.fz
      have e0 := (K.al (cntRow (some x) n c a2 n2 c2)).c0
      go_wp2_with (first
        | ((with_reducible refine Plan.load_lit 24 (.tmp 5) w.heap.size ?_ K.x Try.underlying24 ?_ ?_ ?_); (· rfl); (· rfl); (· exact cnt_info); simp only [Act.put, List.setIfInBounds_toArray, List.set_cons_zero, List.set_cons_succ])
        | (go_at_call 22; ((with_reducible refine (HV.out _ K.b).mono ?_); rintro r9 wl ⟨rfl, h1⟩; clear HV hw0; have K9 := K.on h1; clear K c4 d4 e0; have K := K9; clear K9 h1; have c4 := K.oz; have d4 := K.fz; have e0 := (K.al (cntRow (some x) n c a2 n2 c2)).c0))
        | ((with_reducible refine load_lit_gc 24 (.tmp 5) w.heap.size ?_ ?_ K.x Try.underlying24 ?_ ?_ ?_); (· rfl); (· rfl); (· rfl); (· exact cnt_info); simp only [Act.put, List.setIfInBounds_toArray, List.set_cons_zero, List.set_cons_succ])
        | (go_at_call 32; ((with_reducible refine (HZ1.out _).mono ?_); rintro r9 wl ⟨rfl, h1⟩; clear HZ1; have K9 := K.on h1; clear K c4 d4 e0; have K := K9; clear K9 h1; have c4 := K.oz; have d4 := K.fz; have e0 := (K.al (cntRow (some x) n c a2 n2 c2)).c0))
        | (go_at_call 32; ((with_reducible refine (HZ2.out _).mono ?_); rintro r9 wl ⟨rfl, h1⟩; clear HZ2; have K9 := K.on h1; clear K c4 d4 e0; have K := K9; clear K9 h1; have c4 := K.oz; have d4 := K.fz; have e0 := (K.al (cntRow (some x) n c a2 n2 c2)).c0))
        | ((with_reducible refine load_lit_gc 28 (.tmp 6) (w.heap.size + 1) ?_ ?_ K.o Try.underlying28 ?_ ?_ ?_); (· rfl); (· rfl); (· rfl); (· exact entry_info); simp only [Act.put, List.setIfInBounds_toArray, List.set_cons_zero, List.set_cons_succ])
        | ((with_reducible refine load_lit_gc 28 (.tmp 7) (w.heap.size + 2) ?_ ?_ K.f Try.underlying28 ?_ ?_ ?_); (· rfl); (· rfl); (· rfl); (· exact entry_info); simp only [Act.put, List.setIfInBounds_toArray, List.set_cons_zero, List.set_cons_succ])
        | (go_at_call 33; ((with_reducible refine (HCL.out _ (K.b.alloc K.b.size (cntRow (some x) n c a2 n2 c2))).mono ?_); rintro r9 w3 ⟨g, k3, rfl, hg, hgl, own, h3⟩; have hX := e_on h3 (heap_alloc_new _ (cntRow (some x) n c a2 n2 c2)) (by simp); have hz2 := K.lt; have hgX : wl.heap.size < g := (by rw [World.size_alloc] at hg; omega); have K9 := (K.al (cntRow (some x) n c a2 n2 c2)).on h3; clear K c4 d4 e0; have K := K9; clear K9 h3 hg HCL hgl; have c4 := K.oz; have d4 := K.fz; generalize wl.heap.size = X at *))
        | ((with_reducible refine store_slice_c 22 (.tmp 52) (.tmp 51) X 0 (some ⟨g, 0, none⟩) n k3 ?_ ?_ ⟨_, (two_row hX).1⟩ (free_row_c hX) ints_info1 ?_); (· rfl); (· rfl); simp only [Act.put]; rw [setCell_eq_setRow _ _ _ _ _ _ _ hX]; simp only [List.setIfInBounds_toArray, List.set_cons_zero]; have K9 := K.row hz2 #[.slice (some ⟨g, 0, none⟩) n k3, .slice a2 n2 c2]; have hX9 := setRow_heap w3 X _ #[.slice (some ⟨g, 0, none⟩) n k3, .slice a2 n2 c2] _ _ hX; have own9 := Own.row own #[.slice (some ⟨g, 0, none⟩) n k3, .slice a2 n2 c2] (show X ≠ g by omega); clear K hX own c4 d4; generalize w3.setRow X #[.slice (some ⟨g, 0, none⟩) n k3, .slice a2 n2 c2] = w4 at *; have K := K9; have hX := hX9; have own := own9; clear K9 hX9 own9; have e0 := (two_row hX).1; have c4 := K.oz; have d4 := K.fz; have f0 := (int_own_cell own HQ1.out).1; have f1h := Lib.hid (int_own_cell own HQ1.out).2)
        | ((with_reducible refine idx_store_int 22 3 62 (.tmp 55) (.tmp 58) (.tmp 61) g i1 .i64 (q1 - 1) ?_ ?_ ?_ ⟨_, f0⟩ f1h.out Put.int_info1 ?_); (· go_simp); (· rfl); (· rfl); intro w9 e9; have own9 := e_owns_cell own i1 (.int .i64 (q1 - 1)); rw [intC_set, ← HP1.out, ← e9] at own9; have K9 := K.cell (k := i1) (show w.heap.size + 3 < g by omega) (.int .i64 (q1 - 1)); rw [← e9] at K9; have hX9 := (Below.heap_setCell _ ⟨g, i1, none⟩ (.int .i64 (q1 - 1)) X (by simp; omega)).trans hX; rw [← e9] at hX9; clear K hX own c4 d4 e0 f0 f1h e9; have K := K9; have hX := hX9; have own := own9; clear K9 hX9 own9; simp only [Act.put, List.setIfInBounds_toArray, List.set_cons_zero, List.set_cons_succ]; have e0 := (two_row hX).1; have c4 := K.oz; have d4 := K.fz; have f0 := (int_own_cell own HQ2.out).1; have f1h := Lib.hid (int_own_cell own HQ2.out).2)
        | ((with_reducible refine idx_store_int 22 3 72 (.tmp 65) (.tmp 68) (.tmp 71) g i2 .i64 (q2 + 1) ?_ ?_ ?_ ⟨_, f0⟩ f1h.out Put.int_info1 ?_); (· go_simp); (· rfl); (· rfl); intro w9 e9; have own9 := e_owns_cell own i2 (.int .i64 (q2 + 1)); rw [intC_set, ← HP2.out, ← e9] at own9; have K9 := K.cell (k := i2) (show w.heap.size + 3 < g by omega) (.int .i64 (q2 + 1)); rw [← e9] at K9; have hX9 := (Below.heap_setCell _ ⟨g, i2, none⟩ (.int .i64 (q2 + 1)) X (by simp; omega)).trans hX; rw [← e9] at hX9; clear K hX own c4 d4 e0 f0 f1h e9; have K := K9; have hX := hX9; have own := own9; clear K9 hX9 own9; simp only [Act.put, List.setIfInBounds_toArray, List.set_cons_zero, List.set_cons_succ]; have e0 := (two_row hX).1; have c4 := K.oz; have d4 := K.fz; have D := chg_list HPD.out own K.b (show w.heap.size + 3 < g by omega))
        | ((with_reducible refine Plan.load_lit 24 (.tmp 12) X ?_ hX Try.underlying24 ?_ ?_ ?_); (· rfl); (· rfl); (· exact cnt_info); simp only [Act.put, List.setIfInBounds_toArray, List.set_cons_zero, List.set_cons_succ])
        | (go_at_call 34; ((with_reducible refine (ifValid_yes _ _ _ _ _ _ _ _ _ _ _ _ _ _ _ D HVD.out).mono ?_); rintro r9 w6 ⟨rfl, h6⟩; have K9 := K.on h6; have D9 := D.on (Same.below h6); clear K D; have K := K9; have D := D9; clear K9 D9 h6))
        | ((with_reducible refine Plan.store_lit 24 (.tmp 10) _ (w.heap.size + 3) ?_ K.r ?_ ?_ ?_ ?_ ?_ ?_); rotate_left; (· rfl); (· rfl); (· exact cnt_info); (· rfl); (· simp [Value.oneCell']); simp only [Act.put]))
      exact bodyPost_ret (Plan.results_cell_tmp (p := 10) (q := 11) rfl _ _ _ _ _ _ _ rfl (setRow_heap _ _ _ _ _ _ K.r) Try.underlying24 rfl cnt_info) rfl ⟨_, _, _, _, _, _, rfl, (D.on (Same.row (r := w.heap.size + 3) (fun h => by rcases h with h | h; (· have := h.2; omega); (· omega)) _)).mono (fun b _ h => by rcases h with h | h; (· exact .inl h.1); (· exact .inr (by omega))), below_setRow K.b (show w.heap.size ≤ w.heap.size + 3 by omega) _⟩
end Go.Proofs.Ytigmjpkhpoolkaa.Ents
