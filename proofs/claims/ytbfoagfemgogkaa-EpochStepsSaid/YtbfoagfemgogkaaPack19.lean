/- Texts that belong together, part 19. -/
import Derived.Test.YtbfoagfemgogkaaPack18

/- The walk of the program's zonesValid of epochs. -/
namespace Go.Proofs.Ytbfoagfemgogkaa.Ents
open Go.RowKit Plan EntMath CntMath EpoMath Rws
attribute [local go_sem] Oper.semAt_some
/-- where zonesValid stands: its boxes, and the map -/
structure ZW (w W : World) (R : Obj) (L : List Ret) : Prop where
  bE : W.heap[w.heap.size]? = some R
  bR : W.heap[w.heap.size + 1]? = some (.cells #[.bool false] 4 (0, 0))
  sM : Seen W (w.heap.size + 1 + 1) L
  bS : W.heap[w.heap.size + 1 + 1 + 1]? = some (.cells #[.map (some (w.heap.size + 1 + 1))] 67 (0, 0))
  hb : Below w.heap.size w W
section
variable {w W W' : World} {R : Obj} {L : List Ret}
theorem ZW.grown {row : Option Nat} (K : ZW w W R L) (h : W.grownBy W' row) (hr : ∀ r, row = some r → w.heap.size + 4 ≤ r) : ZW w W' R L :=
  ⟨(h.block _ (e_lt K.bE) (fun e => by have := hr _ e.symm; omega)).trans K.bE, (h.block _ (e_lt K.bR) (fun e => by have := hr _ e.symm; omega)).trans K.bR,
    K.sM.on (h.block _ K.sM.lt (fun e => by have := hr _ e.symm; omega)), (h.block _ (e_lt K.bS) (fun e => by have := hr _ e.symm; omega)).trans K.bS, K.hb.grown h K.hb.size (fun z hz => by have := hr z hz; omega)⟩
theorem ZW.al (K : ZW w W R L) (o : Obj) : ZW w (W.alloc o) R L := K.grown (World.grownBy_alloc W o none) (fun r e => by cases e)
theorem ZW.seen {L' : List Ret} (K : ZW w W R L) (h : W.grownBy W' (some (w.heap.size + 1 + 1))) (hs : Seen W' (w.heap.size + 1 + 1) L') : ZW w W' R L' :=
  ⟨(h.block _ (e_lt K.bE) (fun e => by have := Option.some.inj e; omega)).trans K.bE, (h.block _ (e_lt K.bR) (fun e => by have := Option.some.inj e; omega)).trans K.bR,
    hs, (h.block _ (e_lt K.bS) (fun e => by have := Option.some.inj e; omega)).trans K.bS, K.hb.grown h K.hb.size (fun z hz => by have := Option.some.inj hz; omega)⟩
end
/-- a round's box lies on -/
theorem box_own {α : Type} (B : Nat) (o : Obj) (ho : o.isCells = true) : Own (fun (_ : α) W => W.heap[B]? = some o) := fun s X Y row hs hg hrow =>
  (hg.block B (e_lt hs) (fun e => by obtain ⟨o', h1, h2⟩ := hrow B e.symm; rw [hs] at h1; cases h1; rw [ho] at h2; cases h2)).trans hs
set_option maxRecDepth 100000 in
set_option maxHeartbeats 8000000 in
theorem epoZones_in {F : Fence} (hW : Wide F) (n : Nat) (hn : 3 ≤ n) (Fs : Nat → Prop) (E : Epo) (g : Int) (a b : Option Addr) (k c m d : Nat) (w : World) (hF : ∀ b, Fs b → b < w.heap.size) (hl : RList w Fs b m d E.zones) :
    CallsIn F n Try.prog 41 #[epoV g a k c b m d] w fun r w' => r = .returned (.bool (okRets g E.zones)) ∧ Below w.heap.size w w' := by
  have h1 : 1 ≤ n := by omega
  have h1' : 1 ≤ n - 1 - 1 := by omega
  have hro := hW.ro
  have hfn := hW.fn
  have hmm := @run_makeMap Try.prog
  refine callsIn_of_wp_marks Try.func41 rfl (hW.fn _) ?_ hW.ro
  simp only [Try.ntmps41, List.size_toArray, List.length_cons, List.length_nil, Nat.reduceAdd, Nat.reduceSub, Array.replicate_succ, Array.replicate_zero, List.push_toArray, List.append_toArray, List.nil_append, List.cons_append]
  gi_wp2_with (first
    | (gi_at_call 37; refine (epoIter_in hW (n - 1) _ _ _ _ _ _ _ _).mono ?_; rintro e9 w9 ⟨rfl, rfl⟩))
  have q0 := heap_alloc_new w (epoRow g a k c b m d)
  have q1 := heap_alloc_new (w.alloc (epoRow g a k c b m d)) (.cells #[.bool false] 4)
  have q2 := heap_alloc_new ((w.alloc (epoRow g a k c b m d)).alloc (.cells #[.bool false] 4)) (.map #[] 0)
  have q3 := heap_alloc_new (((w.alloc (epoRow g a k c b m d)).alloc (.cells #[.bool false] 4)).alloc (.map #[] 0)) (.cells #[.map (some (w.heap.size + 1 + 1))] 67)
  have q4 := heap_alloc_new ((((w.alloc (epoRow g a k c b m d)).alloc (.cells #[.bool false] 4)).alloc (.map #[] 0)).alloc (.cells #[.map (some (w.heap.size + 1 + 1))] 67)) (epoRow g a k c b m d)
  simp only [World.size_alloc] at q1 q2 q3 q4
  have K0 : ZW w (((((w.alloc (epoRow g a k c b m d)).alloc (.cells #[.bool false] 4)).alloc (.map #[] 0)).alloc (.cells #[.map (some (w.heap.size + 1 + 1))] 67)).alloc (epoRow g a k c b m d)) (epoRow g a k c b m d) [] :=
    ⟨e_al (e_al (e_al (e_al q0 _) _) _) _, e_al (e_al (e_al q1 _) _) _, Seen.new (e_al (e_al q2 _) _), e_al q3 _, (((((Below.refl _ w).alloc (Nat.le_refl _) _).alloc (by simp) _).alloc (by simp; omega) _).alloc (by simp; omega) _).alloc (by simp; omega) _⟩
  have hsz : (((((w.alloc (epoRow g a k c b m d)).alloc (.cells #[.bool false] 4)).alloc (.map #[] 0)).alloc (.cells #[.map (some (w.heap.size + 1 + 1))] 67)).alloc (epoRow g a k c b m d)).heap.size = w.heap.size + 5 := by simp
  obtain ⟨W0, hW0⟩ : ∃ W0, (((((w.alloc (epoRow g a k c b m d)).alloc (.cells #[.bool false] 4)).alloc (.map #[] 0)).alloc (.cells #[.map (some (w.heap.size + 1 + 1))] 67)).alloc (epoRow g a k c b m d)) = W0 := ⟨_, rfl⟩
  rw [hW0] at K0 hsz q4 ⊢
  clear hW0 q0 q1 q2 q3
  have hlW := hl.on (Same.below (F := Fs) K0.hb)
  clear hl
  refine wpIn_rangeFunc_ownH hro h1 (gf := 46) (lb := #[.pointer (some ⟨w.heap.size + 1 + 1 + 1 + 1, 0, none⟩)]) rfl (hfn _) (enters_of Try.func46 (by kernel_rfl) rfl)
    (epoIter_stops hW (n - 1) (by omega) (w.heap.size + 1 + 1 + 1 + 1) w.heap.size Fs hF g a b k c m d E.zones W0 (by omega) q4 hlW) belowK_t (belowK_b (by omega)) (Below.refl _ _) (fun _ => rfl)
    (fun (pre : List (Nat × Ret)) W => ZW w W (epoRow g a k c b m d) (pre.map Prod.snd) ∧ okRets g (pre.map Prod.snd) = true)
    (fun c (pre : List (Nat × Ret)) W => c = .ret ∧ okRets g (pre.map Prod.snd) = false ∧ W.heap[w.heap.size + 1]? = some (.cells #[.bool false] 4 (0, 0)) ∧ Below w.heap.size w W)
    (fun s A B row hs hg hr => ⟨hs.1.grown hg (fun r e => by have := (hr r e).1; omega), hs.2⟩)
    (fun c s A B row hs hg hr => ⟨hs.1, hs.2.1, (hg.block _ (e_lt hs.2.2.1) (fun e => by have := (hr _ e.symm).1; omega)).trans hs.2.2.1, hs.2.2.2.grown hg hs.2.2.2.size (fun z hz => by have := (hr z hz).1; omega)⟩)
    ⟨K0, rets_nil g⟩
    (fun x a' W => ∃ Bx, w.heap.size + 3 < Bx ∧ W.heap[Bx]? = some (retRow x.2.zone x.2.epoch) ∧ a' = { tmps := #[epoV g a k c b m d, .pointer (some ⟨w.heap.size, 0, none⟩), .pointer (some ⟨w.heap.size + 1, 0, none⟩), .pointer (some ⟨w.heap.size + 1 + 1 + 1, 0, none⟩), undef, .pointer (some ⟨Bx, 0, none⟩), .map (some (w.heap.size + 1 + 1)), epoV g a k c b m d, .func (.func 46) #[] #[.pointer (some ⟨w.heap.size + 1 + 1 + 1 + 1, 0, none⟩)], .int .i64 (x.1 : Int), retV x.2, undef, undef, undef, undef, undef, undef, undef, undef, undef, undef, undef, undef, undef, undef, undef, undef, undef, undef, undef, undef, undef, undef, undef, undef, undef], defers := [] })
    (fun x a' _ X Y row hs hg hr => by obtain ⟨Bx, h1, h2, h3⟩ := hs; exact ⟨Bx, h1, box_own Bx _ rfl () X Y row h2 hg (fun r e => (hr r e).2), h3⟩)
    ?assign ?body ?done ?stop
  case assign =>
    rintro l pre x W K ⟨K1, hok⟩ hK
    gi_wp2
    exact hK _ _ ((KeepsOthers.alloc _ _).from _) ((Below.refl _ W).alloc K1.hb.size _) ⟨K1.al _, hok⟩ ⟨W.heap.size, by have := e_lt K1.bS; omega, heap_alloc_new W _, rfl⟩
  case body =>
    have hszh := Lib.hid hsz
    clear hsz
    rintro l pre ⟨i, rz, re⟩ a' W hl - ⟨K1, hok⟩ ⟨Bx, hBx, bX, rfl⟩ -
    obtain ⟨c0, c1, c2⟩ := three_row K1.bE
    obtain ⟨d0, d1⟩ := two_row bX
    have cS := cell_of_row _ _ 0 _ _ _ K1.bS
    have hlk := seen_look K1.sM rz
    have HB := Lib.hid (fun h => @rets_bad g (pre.map Prod.snd) ⟨rz, re⟩ h)
    have HZ := Lib.hid (fun W => epoZone_any rz W)
    have hbS : Boxed W (w.heap.size + 1) 4 (.bool false) := K1.bR
    have cR := hbS.cell
    have fR := hbS.frozen
    have HE := Lib.hid (fun (ho : okRets g (pre.map Prod.snd ++ [⟨rz, re⟩]) = false) => (show KeepsFrom W0.heap.size W (W.setCell ⟨w.heap.size + 1, 0, none⟩ (.bool false)) ∧ Code.ret = Code.ret ∧ okRets g ((pre ++ [(i, (⟨rz, re⟩ : Ret))]).map Prod.snd) = false ∧ (W.setCell ⟨w.heap.size + 1, 0, none⟩ (.bool false)).heap[w.heap.size + 1]? = some (.cells #[.bool false] 4 (0, 0)) ∧ Below w.heap.size w (W.setCell ⟨w.heap.size + 1, 0, none⟩ (.bool false)) from
      ⟨(KeepsOthers.setCell _ _ _).from _, rfl, by rw [List.map_append]; exact ho, hbS.set _, K1.hb.setCell (p := ⟨w.heap.size + 1, 0, none⟩) (show w.heap.size ≤ w.heap.size + 1 by omega) _⟩))
    rcases ret_ways g (pre.map Prod.snd) ⟨rz, re⟩ with q1 | ⟨q1, q2⟩ | ⟨q1, q2, q3⟩ | ⟨q1, q2, q3, q4⟩ | ⟨q1, q2, q3, q4⟩
    · have HQ := Lib.hid (HE.out (HB.out (.inl q1)))
      simp only at q1
      have t1 : decide (re < 0) = true := by simpa using q1
      clear hlk HE HB hok
      gi_wp2
      exact ⟨HQ.out.1, rfl, HQ.out.2.2⟩
    · have HQ := Lib.hid (HE.out (HB.out (.inr (.inl q2))))
      simp only at q1 q2
      have t1 : decide (re < 0) = false := by simp; omega
      have t2 : decide (g < re) = true := by simpa using q2
      clear hlk HE HB hok
      gi_wp2
      exact ⟨HQ.out.1, rfl, HQ.out.2.2⟩
    · have HQ := Lib.hid (HE.out (HB.out (.inr (.inr (.inl q3)))))
      simp only at q1 q2 q3
      have t1 : decide (re < 0) = false := by simp; omega
      have t2 : decide (g < re) = false := by simp; omega
      rw [decide_eq_false (by omega)] at HZ
      clear hlk HE HB hok
      gi_wp2_with (first
        | (gi_at_call 36; refine (CallsIn.inRound l (hW.calls (HZ.out _))).mono ?_; rintro e9 w9 ⟨rfl, rfl⟩))
      exact ⟨HQ.out.1, rfl, HQ.out.2.2⟩
    · have HQ := Lib.hid (HE.out (HB.out (.inr (.inr (.inr q4)))))
      simp only at q1 q2 q3 q4
      have t1 : decide (re < 0) = false := by simp; omega
      have t2 : decide (g < re) = false := by simp; omega
      rw [decide_eq_true (by omega)] at HZ
      rw [q4] at hlk
      clear HE HB hok
      gi_wp2_with (first
        | (gi_at_call 36; refine (CallsIn.inRound l (hW.calls (HZ.out _))).mono ?_; rintro e9 w9 ⟨rfl, rfl⟩))
      exact ⟨HQ.out.1, rfl, HQ.out.2.2⟩
    · have hok2 := Lib.hid (rets_snoc.2 ⟨hok, by simpa using q1, by simpa using q2, by simpa using q3, q4⟩)
      obtain ⟨W1, hup, hs1, hg1⟩ := seen_put K1.sM ⟨rz, re⟩ q4
      simp only at q1 q2 q3 q4 hup
      have t1 : decide (re < 0) = false := by simp; omega
      have t2 : decide (g < re) = false := by simp; omega
      rw [decide_eq_true (by omega)] at HZ
      rw [q4] at hlk
      have HQ := Lib.hid (show KeepsFrom W0.heap.size W W1 ∧ Below w.heap.size W W1 ∧ ZW w W1 (epoRow g a k c b m d) ((pre ++ [(i, (⟨rz, re⟩ : Ret))]).map Prod.snd) ∧ okRets g ((pre ++ [(i, (⟨rz, re⟩ : Ret))]).map Prod.snd) = true from
        ⟨KeepsFrom.of_grownBy hg1 (fun j e => by cases e; have := hszh.out; omega), (Below.refl _ W).grown hg1 K1.hb.size (fun k e => by cases e; omega), by rw [List.map_append]; exact K1.seen hg1 hs1, by rw [List.map_append]; exact hok2.out⟩)
      clear HE HB hok hs1 hg1 hok2
      gi_wp2_with (first
        | (gi_at_call 36; refine (CallsIn.inRound l (hW.calls (HZ.out _))).mono ?_; rintro e9 w9 ⟨rfl, rfl⟩))
      exact HQ.out
  case done =>
    rintro D ys W hD rfl ⟨K1, hok⟩ hK
    rw [idx_snd] at hok
    have hbS : Boxed W (w.heap.size + 1) 4 (.bool false) := K1.bR
    have cR := hbS.cell
    have fR := hbS.frozen
    have hB2 := K1.hb.setCell (p := ⟨w.heap.size + 1, 0, none⟩) (show w.heap.size ≤ w.heap.size + 1 by omega) (.bool true)
    have hK2 := ((KeepsOthers.setCell W ⟨w.heap.size + 1, 0, none⟩ (.bool true)).same D _ hK rfl)
    have hS2 : (W.setCell ⟨w.heap.size + 1, 0, none⟩ (.bool true)).heap[w.heap.size + 1]? = some (.cells #[.bool true] 4 (0, 0)) := hbS.set _
    gi_wp2
    refine Res.leaves hK2 (Res.results_one rfl _ _ (w.heap.size + 1) (.bool true) rfl rfl Try.underlying4 (cell_of_row _ _ 0 _ _ _ (Res.put_other hK2 hS2 rfl))) ?_
    exact ⟨by rw [hok], hB2.trans (belowK_b (w := w) (Nat.le_refl _) _ D _ _ (by omega) hK2 rfl rfl)⟩
  case stop =>
    rintro D c pre W hD hpre ⟨rfl, hbad, hR, hb⟩ hK
    have ho : okRets g E.zones = false := rets_front (by have := hpre.map Prod.snd; rw [show (idx E.zones).map Prod.snd = E.zones from idx_snd _] at this; exact this) hbad
    gi_wp2
    refine Res.leaves hK (Res.results_one rfl _ _ (w.heap.size + 1) (.bool false) rfl rfl Try.underlying4 (cell_of_row _ _ 0 _ _ _ (Res.put_other hK hR rfl))) ?_
    exact ⟨by rw [ho], hb.trans (belowK_b (w := w) (Nat.le_refl _) _ D _ _ (by omega) hK rfl rfl)⟩
theorem epoZones_any (Fs : Nat → Prop) (E : Epo) (g : Int) (a b : Option Addr) (k c m d : Nat) (w : World) (hF : ∀ b, Fs b → b < w.heap.size) (hl : RList w Fs b m d E.zones) :
    Calls Try.prog 41 #[epoV g a k c b m d] w fun r w' => r = .returned (.bool (okRets g E.zones)) ∧ Below w.heap.size w w' :=
  callsIn_wide.1 (epoZones_in wide_wide 3 (Nat.le_refl _) Fs E g a b k c m d w hF hl)
end Go.Proofs.Ytbfoagfemgogkaa.Ents

/- The walks of the program's Valid and isSlot of epochs. -/
namespace Go.Proofs.Ytbfoagfemgogkaa.Ents
open Go.RowKit Plan EntMath CntMath EpoMath Rws
set_option maxHeartbeats 4000000 in
set_option maxRecDepth 20000 in
theorem epoValid_any (F : Nat → Prop) (E : Epo) (g : Int) (a b : Option Addr) (n c m d : Nat) (w : World) (hl : PList w F g a n c b m d E) :
    Calls Try.prog 24 #[epoV g a n c b m d] w fun r w' => r = .returned (.bool (validE E)) ∧ Below w.heap.size w w' := by
  have hlen := hl.p.length
  obtain rfl := hl.hg
  have hA := (Below.refl w.heap.size w).alloc (Nat.le_refl _) (epoRow E.glob a n c b m d)
  have hr0 := heap_alloc_new w (epoRow E.glob a n c b m d)
  have HP := Lib.hid (fun W => epoPossible_any (n : Int) W)
  have hpv := fun h0 h1 => epoPins_any _ E E.glob a b n c m d _ (hl.same hA) h0 h1
  have HZV := Lib.hid (fun W (h : Below w.heap.size w W) => epoZones_any _ E E.glob a b n c m d W (fun b hb => Nat.lt_of_lt_of_le hb h.size) (hl.same h).z)
  have hcp := hl.p.cap
  unfold maxLen at hcp
  have hres : validE E = (okHead E && E.pins.all (okPin E.glob) && okRets E.glob E.zones) := rfl
  have hh : okHead E = (decide (1 ≤ n) && decide (n ≤ 4) && decide (0 ≤ E.glob) && decide (E.glob ≤ 1099511627776)) := by unfold okHead; rw [hlen]
  rw [hres, hh]
  clear hl hres hh
  generalize E.pins.all (okPin E.glob) = A at *
  generalize okRets E.glob E.zones = B at *
  generalize E.glob = g at *
  rcases head_ways n g with q1 | ⟨q1, q2⟩ | ⟨q1, q2, q3⟩ | ⟨q1, q2, q3, q4⟩ | ⟨q1, q2, q3, q4⟩
  · rw [show (decide (1 ≤ n) && decide (n ≤ 4) && decide (0 ≤ g) && decide (g ≤ 1099511627776) && A && B) = false from by rw [decide_eq_false (by omega : ¬ 1 ≤ n)]; simp]
    rw [decide_eq_false (show ¬ (1 ≤ (n : Int) ∧ (n : Int) ≤ 4) by omega)] at HP
    go_enter Try.func24, Try.ntmps24
    obtain ⟨c0, c1, c2⟩ := three_row hr0
    generalize hw0 : w.alloc (epoRow g a n c b m d) = w0 at *
    go_wp2_with (first
      | (go_at_call 31; ((with_reducible refine (HP.out _).mono ?_); rintro r9 w9 ⟨rfl, rfl⟩)))
    go_ret
    exact ⟨by first | rfl | (simp; done) | (simp; omega), hA⟩
  · rw [show (decide (1 ≤ n) && decide (n ≤ 4) && decide (0 ≤ g) && decide (g ≤ 1099511627776) && A && B) = false from by rw [decide_eq_false (by omega : ¬ n ≤ 4)]; simp]
    rw [decide_eq_false (show ¬ (1 ≤ (n : Int) ∧ (n : Int) ≤ 4) by omega)] at HP
    go_enter Try.func24, Try.ntmps24
    obtain ⟨c0, c1, c2⟩ := three_row hr0
    generalize hw0 : w.alloc (epoRow g a n c b m d) = w0 at *
    go_wp2_with (first
      | (go_at_call 31; ((with_reducible refine (HP.out _).mono ?_); rintro r9 w9 ⟨rfl, rfl⟩)))
    go_ret
    exact ⟨by first | rfl | (simp; done) | (simp; omega), hA⟩
  · rw [show (decide (1 ≤ n) && decide (n ≤ 4) && decide (0 ≤ g) && decide (g ≤ 1099511627776) && A && B) = false from by rw [decide_eq_false (by omega : ¬ 0 ≤ g)]; simp]
    rw [decide_eq_true (show (1 ≤ (n : Int) ∧ (n : Int) ≤ 4) by omega)] at HP
    go_enter Try.func24, Try.ntmps24
    obtain ⟨c0, c1, c2⟩ := three_row hr0
    generalize hw0 : w.alloc (epoRow g a n c b m d) = w0 at *
    go_wp2_with (first
      | (go_at_call 31; ((with_reducible refine (HP.out _).mono ?_); rintro r9 w9 ⟨rfl, rfl⟩)))
    go_ret
    exact ⟨by first | rfl | (simp; done) | (simp; omega), hA⟩
  · rw [show (decide (1 ≤ n) && decide (n ≤ 4) && decide (0 ≤ g) && decide (g ≤ 1099511627776) && A && B) = false from by rw [decide_eq_false (by omega : ¬ g ≤ 1099511627776)]; simp]
    rw [decide_eq_true (show (1 ≤ (n : Int) ∧ (n : Int) ≤ 4) by omega)] at HP
    go_enter Try.func24, Try.ntmps24
    obtain ⟨c0, c1, c2⟩ := three_row hr0
    generalize hw0 : w.alloc (epoRow g a n c b m d) = w0 at *
    go_wp2_with (first
      | (go_at_call 31; ((with_reducible refine (HP.out _).mono ?_); rintro r9 w9 ⟨rfl, rfl⟩)))
    go_ret
    exact ⟨by first | rfl | (simp; done) | (simp; omega), hA⟩
  · have k1 : (decide (1 ≤ n) && decide (n ≤ 4) && decide (0 ≤ g) && decide (g ≤ 1099511627776)) = true := by simp; omega
    rw [k1, Bool.true_and]
    rw [decide_eq_true (show (1 ≤ (n : Int) ∧ (n : Int) ≤ 4) by omega)] at HP
    have HPV := Lib.hid (hpv (by omega) (by omega))
    have p1 : decide (0 ≤ g) = true := by simp; omega
    have p2 : decide (g ≤ 1099511627776) = true := by simp; omega
    have p3 : (0 : Int) ≤ g := by omega
    have p4 : g ≤ 1099511627776 := by omega
    clear hpv k1 q1 q2 q3 q4
    cases A
    · go_enter Try.func24, Try.ntmps24
      obtain ⟨c0, c1, c2⟩ := three_row hr0
      generalize hw0 : w.alloc (epoRow g a n c b m d) = w0 at *
      go_wp2_with (first
        | (go_at_call 31; ((with_reducible refine (HP.out _).mono ?_); rintro r9 w9 ⟨rfl, rfl⟩))
        | ((with_reducible refine Res.load_lit_g 25 (.tmp 1) w.heap.size ?_ ?_ hr0 Try.underlying25 ?_ ?_ ?_); (· rfl); (· rfl); (· rfl); (· exact epo_info); simp only [Act.put, List.setIfInBounds_toArray, List.set_cons_zero, List.set_cons_succ])
        | (go_at_call 40; ((with_reducible refine (HPV.out).mono ?_); rintro r9 w1 ⟨rfl, h1⟩; have b1 := hA.trans (h1.mono hA.size); have hr1 := e_on h1 hr0 (e_lt hr0); clear HPV hr0 hA)))
      go_ret
      exact ⟨rfl, b1⟩
    · rw [Bool.true_and]
      go_enter Try.func24, Try.ntmps24
      obtain ⟨c0, c1, c2⟩ := three_row hr0
      generalize hw0 : w.alloc (epoRow g a n c b m d) = w0 at *
      go_wp2_with (first
        | (go_at_call 31; ((with_reducible refine (HP.out _).mono ?_); rintro r9 w9 ⟨rfl, rfl⟩))
        | ((with_reducible refine Res.load_lit_g 25 (.tmp 1) w.heap.size ?_ ?_ hr0 Try.underlying25 ?_ ?_ ?_); (· rfl); (· rfl); (· rfl); (· exact epo_info); simp only [Act.put, List.setIfInBounds_toArray, List.set_cons_zero, List.set_cons_succ])
        | ((with_reducible refine Res.load_lit_g 25 (.tmp 1) w.heap.size ?_ ?_ hr1 Try.underlying25 ?_ ?_ ?_); (· rfl); (· rfl); (· rfl); (· exact epo_info); simp only [Act.put, List.setIfInBounds_toArray, List.set_cons_zero, List.set_cons_succ])
        | (go_at_call 40; ((with_reducible refine (HPV.out).mono ?_); rintro r9 w1 ⟨rfl, h1⟩; have b1 := hA.trans (h1.mono hA.size); have hr1 := e_on h1 hr0 (e_lt hr0); clear HPV hr0 hA))
        | (go_at_call 41; ((with_reducible refine (HZV.out _ b1).mono ?_); rintro r9 w2 ⟨rfl, h2⟩; have b2 := b1.trans (h2.mono b1.size); clear HZV)))
      go_ret
      exact ⟨rfl, b2⟩
theorem slot_in {E : Epo} {s : Int} {n : Nat} (hn : E.pins.length = n) : inE E s = (validE E && decide (0 ≤ s) && decide (s < (n : Int))) := by unfold inE; rw [hn]
set_option maxHeartbeats 4000000 in
set_option maxRecDepth 20000 in
theorem epoSlot_any (F : Nat → Prop) (E : Epo) (s : Int) (g : Int) (a b : Option Addr) (n c m d : Nat) (w : World) (hl : PList w F g a n c b m d E) :
    Calls Try.prog 34 #[epoV g a n c b m d, .int .i64 s] w fun r w' => r = .returned (.bool (inE E s)) ∧ Below w.heap.size w w' := by
  rw [slot_in hl.p.length]
  have hA := (Below.refl w.heap.size w).alloc (Nat.le_refl _) (epoRow g a n c b m d)
  have hr0 := heap_alloc_new w (epoRow g a n c b m d)
  have HV := Lib.hid (epoValid_any _ E g a b n c m d _ (hl.same hA))
  have hcp := hl.p.cap
  unfold maxLen at hcp
  clear hl
  generalize validE E = V at *
  rcases (show V = false ∨ V = true by cases V <;> simp) with rfl | rfl
  · rw [Bool.false_and, Bool.false_and]
    go_enter Try.func34, Try.ntmps34
    generalize hw0 : w.alloc (epoRow g a n c b m d) = w0 at *
    go_wp2_with (first
      | ((with_reducible refine Plan.load_lit 25 (.tmp 2) (w.heap.size) ?_ hr0 Try.underlying25 ?_ ?_ ?_); (· rfl); (· rfl); (· exact epo_info); simp only [Act.put, List.setIfInBounds_toArray, List.set_cons_zero, List.set_cons_succ])
      | (go_at_call 24; ((with_reducible refine (HV.out).mono ?_); rintro r9 w1 ⟨rfl, h1⟩; have b1 := hA.trans (h1.mono hA.size); have hr1 := e_on h1 hr0 (e_lt hr0); obtain ⟨c0, c1, c2⟩ := three_row hr1; clear HV hr0 hA hw0)))
    go_ret
    exact ⟨by first | rfl | (simp; done) | (simp; omega), b1⟩
  · by_cases h0 : 0 ≤ s
    · by_cases h1 : s < (n : Int)
      · rw [decide_eq_true h0, decide_eq_true h1]
        go_enter Try.func34, Try.ntmps34
        generalize hw0 : w.alloc (epoRow g a n c b m d) = w0 at *
        go_wp2_with (first
          | ((with_reducible refine Plan.load_lit 25 (.tmp 2) (w.heap.size) ?_ hr0 Try.underlying25 ?_ ?_ ?_); (· rfl); (· rfl); (· exact epo_info); simp only [Act.put, List.setIfInBounds_toArray, List.set_cons_zero, List.set_cons_succ])
          | (go_at_call 24; ((with_reducible refine (HV.out).mono ?_); rintro r9 w1 ⟨rfl, h1⟩; have b1 := hA.trans (h1.mono hA.size); have hr1 := e_on h1 hr0 (e_lt hr0); obtain ⟨c0, c1, c2⟩ := three_row hr1; clear HV hr0 hA hw0)))
        go_ret
        exact ⟨by first | rfl | (simp; done) | (simp; omega), b1⟩
      · rw [decide_eq_true h0, decide_eq_false h1]
        go_enter Try.func34, Try.ntmps34
        generalize hw0 : w.alloc (epoRow g a n c b m d) = w0 at *
        go_wp2_with (first
          | ((with_reducible refine Plan.load_lit 25 (.tmp 2) (w.heap.size) ?_ hr0 Try.underlying25 ?_ ?_ ?_); (· rfl); (· rfl); (· exact epo_info); simp only [Act.put, List.setIfInBounds_toArray, List.set_cons_zero, List.set_cons_succ])
          | (go_at_call 24; ((with_reducible refine (HV.out).mono ?_); rintro r9 w1 ⟨rfl, h1⟩; have b1 := hA.trans (h1.mono hA.size); have hr1 := e_on h1 hr0 (e_lt hr0); obtain ⟨c0, c1, c2⟩ := three_row hr1; clear HV hr0 hA hw0)))
        go_ret
        exact ⟨by first | rfl | (simp; done) | (simp; omega), b1⟩
    · rw [decide_eq_false h0]
      go_enter Try.func34, Try.ntmps34
      generalize hw0 : w.alloc (epoRow g a n c b m d) = w0 at *
      go_wp2_with (first
        | ((with_reducible refine Plan.load_lit 25 (.tmp 2) (w.heap.size) ?_ hr0 Try.underlying25 ?_ ?_ ?_); (· rfl); (· rfl); (· exact epo_info); simp only [Act.put, List.setIfInBounds_toArray, List.set_cons_zero, List.set_cons_succ])
        | (go_at_call 24; ((with_reducible refine (HV.out).mono ?_); rintro r9 w1 ⟨rfl, h1⟩; have b1 := hA.trans (h1.mono hA.size); have hr1 := e_on h1 hr0 (e_lt hr0); obtain ⟨c0, c1, c2⟩ := three_row hr1; clear HV hr0 hA hw0)))
      go_ret
      exact ⟨by first | rfl | (simp; done) | (simp; omega), b1⟩
end Go.Proofs.Ytbfoagfemgogkaa.Ents

/- The walk of the program's ready of epochs. -/
namespace Go.Proofs.Ytbfoagfemgogkaa.Ents
open Go.RowKit Plan EntMath CntMath EpoMath Rws
attribute [local go_sem] Oper.semAt_some
/-- where ready stands: its boxes -/
structure RW (w W : World) (R : Obj) (i : Int) (o : Bool) : Prop where
  bE : W.heap[w.heap.size]? = some R
  bI : W.heap[w.heap.size + 1]? = some (.cells #[.int .i64 i] 3 (0, 0))
  bO : W.heap[w.heap.size + 1 + 1]? = some (.cells #[.bool o] 4 (0, 0))
  hb : Below w.heap.size w W
section
variable {w W W' : World} {R : Obj} {i j : Int} {o o' : Bool}
theorem RW.grown {row : Option Nat} (K : RW w W R i o) (h : W.grownBy W' row) (hr : ∀ r, row = some r → w.heap.size + 3 ≤ r) : RW w W' R i o :=
  ⟨(h.block _ (e_lt K.bE) (fun e => by have := hr _ e.symm; omega)).trans K.bE, (h.block _ (e_lt K.bI) (fun e => by have := hr _ e.symm; omega)).trans K.bI,
    (h.block _ (e_lt K.bO) (fun e => by have := hr _ e.symm; omega)).trans K.bO, K.hb.grown h K.hb.size (fun z hz => by have := hr z hz; omega)⟩
theorem RW.al (K : RW w W R i o) (p : Obj) : RW w (W.alloc p) R i o := K.grown (World.grownBy_alloc W p none) (fun r e => by cases e)
theorem RW.on (K : RW w W R i o) (h : Below W.heap.size W W') : RW w W' R i o := ⟨e_on h K.bE (e_lt K.bE), e_on h K.bI (e_lt K.bI), e_on h K.bO (e_lt K.bO), K.hb.trans (h.mono K.hb.size)⟩
theorem RW.start (w : World) (R : Obj) : RW w (((w.alloc R).alloc (.cells #[.int .i64 0] 3)).alloc (.cells #[.bool false] 4)) R 0 false := by
  have q1 := heap_alloc_new (w.alloc R) (.cells #[.int .i64 0] 3)
  have q2 := heap_alloc_new ((w.alloc R).alloc (.cells #[.int .i64 0] 3)) (.cells #[.bool false] 4)
  simp only [World.size_alloc] at q1 q2
  exact ⟨e_al (e_al (heap_alloc_new w R) _) _, e_al q1 _, q2, (((Below.refl _ w).alloc (Nat.le_refl _) _).alloc (by simp) _).alloc (by simp; omega) _⟩
theorem RW.put (K : RW w W R i o) (j : Int) (o' : Bool) : RW w ((W.setCell ⟨w.heap.size + 1, 0, none⟩ (.int .i64 j)).setCell ⟨w.heap.size + 1 + 1, 0, none⟩ (.bool o')) R j o' := by
  have b1 : Boxed W (w.heap.size + 1) 3 (.int .i64 i) := K.bI
  have b2 : Boxed W (w.heap.size + 1 + 1) 4 (.bool o) := K.bO
  have b3 := (b1.set (.int .i64 j)).other (B' := w.heap.size + 1 + 1) (by omega) (.bool o')
  have b4 := (b2.other (B' := w.heap.size + 1) (by omega) (.int .i64 j)).set (.bool o')
  exact ⟨((Below.heap_setCell _ _ _ _ (by simp; omega)).trans (Below.heap_setCell _ _ _ _ (by simp))).trans K.bE, b3, b4, (K.hb.setCell (p := ⟨w.heap.size + 1, 0, none⟩) (show w.heap.size ≤ w.heap.size + 1 by omega) _).setCell (p := ⟨w.heap.size + 1 + 1, 0, none⟩) (show w.heap.size ≤ w.heap.size + 1 + 1 by omega) _⟩
theorem two_put (w W : World) (j : Int) (o' : Bool) : KeepsOthers W ((W.setCell ⟨w.heap.size + 1, 0, none⟩ (.int .i64 j)).setCell ⟨w.heap.size + 1 + 1, 0, none⟩ (.bool o')) := (KeepsOthers.setCell _ _ _).trans (KeepsOthers.setCell _ _ _)
theorem RW.boxes (K : RW w W R i o) (j : Int) : W.cell? ⟨w.heap.size + 1, 0, none⟩ = some (.int .i64 i) ∧ W.frozen? ⟨w.heap.size + 1, 0, none⟩ = false ∧ W.cell? ⟨w.heap.size + 1 + 1, 0, none⟩ = some (.bool o) ∧ W.frozen? ⟨w.heap.size + 1 + 1, 0, none⟩ = false ∧ (W.setCell ⟨w.heap.size + 1, 0, none⟩ (.int .i64 j)).cell? ⟨w.heap.size + 1 + 1, 0, none⟩ = some (.bool o) ∧ (W.setCell ⟨w.heap.size + 1, 0, none⟩ (.int .i64 j)).frozen? ⟨w.heap.size + 1 + 1, 0, none⟩ = false := by
  have b1 : Boxed W (w.heap.size + 1) 3 (.int .i64 i) := K.bI
  have b2 : Boxed W (w.heap.size + 1 + 1) 4 (.bool o) := K.bO
  have b3 := b2.other (B' := w.heap.size + 1) (by omega) (.int .i64 j)
  exact ⟨b1.cell, b1.frozen, b2.cell, b2.frozen, b3.cell, b3.frozen⟩
end
/-- none of the zones that have come is ready; the last one is the first that is -/
def NoneOld (g : Int) (pre : List (Nat × Ret)) : Prop := ∀ x ∈ pre, old g x.2 = false
def FirstOld (g : Int) (w W : World) (R : Obj) (pre : List (Nat × Ret)) : Prop := ∃ p x, pre = p ++ [x] ∧ (∀ y ∈ p, old g y.2 = false) ∧ old g x.2 = true ∧ RW w W R (x.1 : Int) true
/-- what the program's ready gives -/
def RdyI (w : World) (E : Epo) (r : Ending) (w' : World) : Prop :=
  ((∃ (j : Nat) (x : Ret), r = .returned (.tuple #[.int .i64 (j : Int), .bool true]) ∧ E.zones[j]? = some x ∧ readyR E = some x ∧ validE E = true) ∨ (r = .returned (.tuple #[.int .i64 0, .bool false]) ∧ readyR E = none)) ∧ Below w.heap.size w w'
set_option maxRecDepth 100000 in
set_option maxHeartbeats 8000000 in
theorem epoReady_in {F : Fence} (hW : Wide F) (n : Nat) (hn : 3 ≤ n) (Fs : Nat → Prop) (E : Epo) (g : Int) (a b : Option Addr) (k c m d : Nat) (w : World) (hF : ∀ b, Fs b → b < w.heap.size) (hl : PList w Fs g a k c b m d E) :
    CallsIn F n Try.prog 39 #[epoV g a k c b m d] w (RdyI w E) := by
  have h1 : 1 ≤ n := by omega
  have hro := hW.ro
  have hfn := hW.fn
  have K0 := RW.start w (epoRow g a k c b m d)
  have HV := Lib.hid (epoValid_any _ E g a b k c m d _ (hl.same K0.hb))
  have HZ := Lib.hid hl.z
  have hglob := hl.hg
  clear hl
  unfold RdyI
  cases hv : validE E
  · have hr : readyR E = none := by unfold readyR; rw [hv]; rfl
    rw [hv] at HV
    have HR := Lib.hid hr
    clear hr hv hglob
    refine callsIn_of_wp_marks Try.func39 rfl (hW.fn _) ?_ hW.ro
    simp only [Try.ntmps39, List.size_toArray, List.length_cons, List.length_nil, Nat.reduceAdd, Nat.reduceSub, Array.replicate_succ, Array.replicate_zero, List.push_toArray, List.append_toArray, List.nil_append, List.cons_append]
    gi_wp2_with (first
      | (gi_at_call 24; ((with_reducible refine (hW.calls HV.out).mono ?_); rintro r9 w1 ⟨rfl, h9⟩; have K1 := K0.on h9; obtain ⟨e1, e2, e3, e4, e5, e6⟩ := K1.boxes 0; clear HV h9 K0)))
    have K2 := K1.put 0 false
    exact ⟨_, Res.results_two rfl _ _ (w.heap.size + 1) (w.heap.size + 1 + 1) (.int .i64 0) (.bool false) rfl rfl rfl Try.underlying3 (cell_of_row _ _ 0 _ _ _ K2.bI) rfl Try.underlying4 (cell_of_row _ _ 0 _ _ _ K2.bO), .inr ⟨rfl, HR.out⟩, K2.hb⟩
  · rw [hv] at HV
    have hhd := head_e hv
    rw [hglob] at hhd
    have hwg : wrap64 (g - 2) = g - 2 := by unfold wrap64; omega
    have hwg2 : IntKind.i64.wrap (g - 2) = g - 2 := IntWalk.i64_in _ (by omega)
    refine callsIn_of_wp_marks Try.func39 rfl (hW.fn _) ?_ hW.ro
    simp only [Try.ntmps39, List.size_toArray, List.length_cons, List.length_nil, Nat.reduceAdd, Nat.reduceSub, Array.replicate_succ, Array.replicate_zero, List.push_toArray, List.append_toArray, List.nil_append, List.cons_append]
    gi_wp2_with (first
      | (gi_at_call 24; ((with_reducible refine (hW.calls HV.out).mono ?_); rintro r9 w1 ⟨rfl, h9⟩; have K1 := K0.on h9; clear HV h9 K0))
      | ((with_reducible refine Res.gi_load_lit 25 (.tmp 1) (w.heap.size) ?_ K1.bE Try.underlying25 ?_ ?_ ?_); (· rfl); (· rfl); (· exact epo_info); simp only [Act.put, List.setIfInBounds_toArray, List.set_cons_zero, List.set_cons_succ])
      | (gi_at_call 37; refine (epoIter_in hW (n - 1) _ _ _ _ _ _ _ _).mono ?_; rintro e9 w9 ⟨rfl, rfl⟩))
    have K2 := K1.al (epoRow g a k c b m d)
    have q4 := heap_alloc_new w1 (epoRow g a k c b m d)
    have hsz : (w1.alloc (epoRow g a k c b m d)).heap.size = w1.heap.size + 1 := by simp
    have hs1 := e_lt K1.bO
    generalize w1.alloc (epoRow g a k c b m d) = W0 at *
    have hlW := HZ.out.on (Same.below (F := Fs) K2.hb)
    refine wpIn_rangeFunc_ownH hro h1 (gf := 46) (lb := #[.pointer (some ⟨w1.heap.size, 0, none⟩)]) rfl (hfn _) (enters_of Try.func46 (by kernel_rfl) rfl)
      (epoIter_stops hW (n - 1) (by omega) w1.heap.size w.heap.size Fs hF g a b k c m d E.zones W0 (by omega) q4 hlW) belowK_t (belowK_b (by omega)) (Below.refl _ _) (fun _ => rfl)
      (fun (pre : List (Nat × Ret)) W => RW w W (epoRow g a k c b m d) 0 false ∧ NoneOld g pre)
      (fun cc (pre : List (Nat × Ret)) W => cc = .ret ∧ FirstOld g w W (epoRow g a k c b m d) pre)
      (fun s A B row hs hg hr => ⟨hs.1.grown hg (fun r e => by have := (hr r e).1; omega), hs.2⟩)
      (fun _ s A B row hs hg hr => by obtain ⟨h1, p, x, h2, h3, h4, h5⟩ := hs; exact ⟨h1, p, x, h2, h3, h4, h5.grown hg (fun r e => by have := (hr r e).1; omega)⟩)
      ⟨K2, by simp [NoneOld]⟩
      (fun x a' W => ∃ Bx, w.heap.size + 2 < Bx ∧ W.heap[Bx]? = some (retRow x.2.zone x.2.epoch) ∧ a' = { tmps := #[epoV g a k c b m d, .pointer (some ⟨w.heap.size, 0, none⟩), .pointer (some ⟨w.heap.size + 1, 0, none⟩), .pointer (some ⟨w.heap.size + 1 + 1, 0, none⟩), .int .i64 (x.1 : Int), .pointer (some ⟨Bx, 0, none⟩), epoV g a k c b m d, .bool true, .bool false, epoV g a k c b m d, .func (.func 46) #[] #[.pointer (some ⟨w1.heap.size, 0, none⟩)], .int .i64 (x.1 : Int), retV x.2, undef, undef, undef, undef, undef, undef, undef], defers := [] })
      (fun x a' _ X Y row hs hg hr => by obtain ⟨Bx, h1, h2, h3⟩ := hs; exact ⟨Bx, h1, box_own Bx _ rfl () X Y row h2 hg (fun r e => (hr r e).2), h3⟩)
      ?assign ?body ?done ?stop
    case assign =>
      rintro l pre x W K ⟨K3, hok⟩ hK
      gi_wp2
      exact hK _ _ ((KeepsOthers.alloc _ _).from _) ((Below.refl _ W).alloc K3.hb.size _) ⟨K3.al _, hok⟩ ⟨W.heap.size, by have := e_lt K3.bO; omega, heap_alloc_new W _, rfl⟩
    case body =>
      have hszh := Lib.hid hsz
      clear hsz
      rintro l pre ⟨i, rz, re⟩ a' W hl - ⟨K3, hok⟩ ⟨Bx, hBx, bX, rfl⟩ -
      obtain ⟨c0, c1, c2⟩ := three_row K3.bE
      obtain ⟨d0, d1⟩ := two_row bX
      obtain ⟨e1, e2, e3, e4, e5, e6⟩ := K3.boxes (i : Int)
      have hok2 := Lib.hid hok
      clear hok
      by_cases q1 : re ≤ g - 2
      · have HQ := Lib.hid (show _ ∧ Below w.heap.size w w ∧ FirstOld g w _ (epoRow g a k c b m d) (pre ++ [(i, (⟨rz, re⟩ : Ret))]) from
          ⟨(two_put w W (i : Int) true).from W0.heap.size, Below.refl _ _, pre, (i, ⟨rz, re⟩), rfl, hok2.out, by unfold old; simpa using q1, K3.put (i : Int) true⟩)
        gi_wp2
        exact ⟨HQ.out.1, rfl, HQ.out.2.2⟩
      · have HQ := Lib.hid (show KeepsFrom W0.heap.size W W ∧ Below w.heap.size W W ∧ RW w W (epoRow g a k c b m d) 0 false ∧ NoneOld g (pre ++ [(i, (⟨rz, re⟩ : Ret))]) from
          ⟨KeepsFrom.refl _ _, Below.refl _ _, K3, fun x hx => by
            rcases List.mem_append.1 hx with hx | hx
            · exact hok2.out x hx
            · obtain rfl := List.mem_singleton.1 hx
              unfold old
              exact decide_eq_false q1⟩)
        gi_wp2
        exact HQ.out
    case done =>
      rintro D ys W hD rfl ⟨K3, hok⟩ hK
      obtain ⟨e1, e2, e3, e4, e5, e6⟩ := K3.boxes 0
      have K4 := K3.put 0 false
      have hK2 := (two_put w W 0 false).same D _ hK rfl
      have hr : readyR E = none := ready_none fun x hx => by
        obtain ⟨i, hi⟩ := List.mem_iff_getElem?.1 hx
        have := hok (i, x) (List.mem_of_getElem? (i := i) (by rw [idx_at, hi]; rfl))
        rw [hglob]
        exact this
      have HR := Lib.hid hr
      clear hok hr
      gi_wp2
      exact Res.leaves hK2 (Res.results_two rfl _ _ (w.heap.size + 1) (w.heap.size + 1 + 1) (.int .i64 0) (.bool false) rfl rfl rfl Try.underlying3 (cell_of_row _ _ 0 _ _ _ (Res.put_other hK2 K4.bI rfl)) rfl Try.underlying4 (cell_of_row _ _ 0 _ _ _ (Res.put_other hK2 K4.bO rfl)))
        ⟨.inr ⟨rfl, HR.out⟩, K4.hb.trans (belowK_b (w := w) (Nat.le_refl _) _ D _ _ (by omega) hK2 rfl rfl)⟩
    case stop =>
      rintro D c pre W hD hpre ⟨rfl, p, x, rfl, hp, hx, K3⟩ hK
      obtain ⟨hi, hz, hfr⟩ := idx_front hpre
      have hr : readyR E = some x.2 := ready_at hv hz (by rw [hglob]; exact hx) (fun i y hiy hy => by
        have h3 := hfr i y hiy hy
        obtain ⟨q, hq, rfl⟩ := List.mem_map.1 (List.mem_of_getElem? h3)
        rw [hglob]
        exact hp q hq)
      rw [hi] at K3
      have HR := Lib.hid hr
      have HZ1 := Lib.hid hz
      clear hr hz hfr hp hx
      gi_wp2
      exact Res.leaves hK (Res.results_two rfl _ _ (w.heap.size + 1) (w.heap.size + 1 + 1) (.int .i64 (p.length : Int)) (.bool true) rfl rfl rfl Try.underlying3 (cell_of_row _ _ 0 _ _ _ (Res.put_other hK K3.bI rfl)) rfl Try.underlying4 (cell_of_row _ _ 0 _ _ _ (Res.put_other hK K3.bO rfl)))
        ⟨.inl ⟨p.length, x.2, rfl, HZ1.out, HR.out, trivial⟩, K3.hb.trans (belowK_b (w := w) (Nat.le_refl _) _ D _ _ (by omega) hK rfl rfl)⟩
theorem epoReady_any (Fs : Nat → Prop) (E : Epo) (g : Int) (a b : Option Addr) (k c m d : Nat) (w : World) (hF : ∀ b, Fs b → b < w.heap.size) (hl : PList w Fs g a k c b m d E) :
    Calls Try.prog 39 #[epoV g a k c b m d] w (RdyI w E) :=
  callsIn_wide.1 (epoReady_in wide_wide 3 (Nat.le_refl _) Fs E g a b k c m d w hF hl)
end Go.Proofs.Ytbfoagfemgogkaa.Ents
