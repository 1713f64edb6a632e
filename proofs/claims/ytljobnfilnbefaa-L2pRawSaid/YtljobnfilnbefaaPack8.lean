/- Texts that belong together, part 8. -/
import Derived.Test.YtljobnfilnbefaaPack7
import Derived.Lib.AppendZerosOnto
import Derived.Lib.AppendZeros
import Derived.SizedLaws

/- The walk of L2pMade, under the program's contracts. -/
namespace Go.Proofs.Ytljobnfilnbefaa.Ents
open Go.RowKit Plan EntMath
/-- where a round of the law stands: a map whose lists lie from B on, below N and not in the map's own box A, the dice ahead of B -/
structure SitM (W W0 : World) (B A N base g : Nat) (L : List Int) (k : Nat) (a : Option Addr) (n c : Nat) (Ls : List (List Ent)) : Prop where
  l : MList W (fun b => B ≤ b ∧ b ≠ A ∧ b < N) a n c Ls
  d : Dice W base g L k
  s : N ≤ W.heap.size
  b : Below base W0 W
section
variable {W W0 : World} {B A N base g : Nat} {L : List Int} {k n c : Nat} {a : Option Addr} {Ls : List (List Ent)}
theorem SitM.on (h : SitM W W0 B A N base g L k a n c Ls) {W' : World} (hb : Below W.heap.size W W') : SitM W' W0 B A N base g L k a n c Ls :=
  ⟨h.l.on (Same.below hb), dice_on h.d hb (Nat.le_refl _), Nat.le_trans h.s hb.size, h.b.trans (hb.mono (Nat.le_trans (dice_base h.d) (Nat.le_of_lt (dice_lt h.d))))⟩
theorem SitM.al (h : SitM W W0 B A N base g L k a n c Ls) (o : Obj) : SitM (W.alloc o) W0 B A N base g L k a n c Ls := h.on ((Below.refl _ _).alloc (Nat.le_refl _) o)
theorem SitM.dr (h : SitM W W0 B A N base g L k a n c Ls) : SitM W.drew W0 B A N base g L k a n c Ls := ⟨h.l.on ⟨Nat.le_refl _, fun _ _ _ => rfl⟩, dice_drew h.d, h.s, h.b.drew⟩
theorem SitM.next (h : SitM W W0 B A N base g L k a n c Ls) (hg : g < B) {W' : World} {k' : Nat} (hd : Dice W' base g L k') (hw : W.grownBy W' (some g)) : SitM W' W0 B A N base g L k' a n c Ls :=
  ⟨h.l.on ⟨hw.size, fun b hb hl => hw.block b hl (fun e => by have h8 := Option.some.inj e; have := hb.1; omega)⟩, hd, Nat.le_trans h.s hw.size, h.b.grown hw (Nat.le_trans (dice_base h.d) (Nat.le_of_lt (dice_lt h.d))) (fun z hz => by obtain rfl := Option.some.inj hz; exact dice_base hd)⟩
theorem SitM.row (h : SitM W W0 B A N base g L k a n c Ls) (hg : g < N) {r : Nat} (hr : N ≤ r) (cs : Array Value) : SitM (W.setRow r cs) W0 B A N base g L k a n c Ls :=
  ⟨h.l.on (Same.row (r := r) (fun h9 => by have := h9.2.2; omega) cs), dice_far h.d (sm_setRow W r cs) (by omega), by have := h.s; simpa [World.setRow] using this, below_setRow h.b (by have := dice_base h.d; omega) cs⟩
theorem SitM.box (h : SitM W W0 B A N base g L k a n c Ls) (hg : g < A) (hb : base ≤ A) (cs : Array Value) : SitM (W.setRow A cs) W0 B A N base g L k a n c Ls :=
  ⟨h.l.on (Same.row (r := A) (fun h9 => h9.2.1 rfl) cs), dice_far h.d (sm_setRow W A cs) hg, by have := h.s; simpa [World.setRow] using this, below_setRow h.b hb cs⟩
end
theorem map_sc {w : World} {g j : Nat} {cs : Array Value} {t : TypeId} {fr : Nat × Nat} {u : Value} (h : w.heap[g]? = some (.cells cs t fr)) : (w.setCell ⟨g, j, none⟩ u).heap[g]? = some (.cells (cs.setIfInBounds j u) t fr) := by
  rw [setCell_eq_setRow w g j cs t fr u h]
  exact setRow_heap w g cs _ t fr h
theorem map_two (N : Int) : ((N == 0) = true) ∨ ((N == 0) = false) := by cases N == 0 <;> simp
theorem stp5_le (zs : List Int) (k : Nat) : stp5 zs k ≤ k + 5 := by
  unfold stp5
  have h1 := stp_le zs k
  have h2 := stp_le zs (stp zs k)
  have h3 := stp_le zs (stp zs (stp zs k))
  have h4 := stp_le zs (stp zs (stp zs (stp zs k)))
  have h5 := stp_le zs (stp zs (stp zs (stp zs (stp zs k))))
  omega
theorem map_rest (n k : Nat) : (max (0 : Int) ((n : Int) - (k : Int)) = 0 ∨ 0 < max (0 : Int) ((n : Int) - (k : Int))) := by omega
theorem flat_set (Ls : List (List Ent)) (i : Nat) (M : List Ent) : ((Ls.set i M).flatten).length + (Ls.getD i []).length ≤ Ls.flatten.length + M.length := by
  induction Ls generalizing i with
  | nil => simp
  | cons L Ls ih =>
    cases i with
    | zero => simp; omega
    | succ i =>
      have := ih i
      simp only [List.set_cons_succ, List.flatten_cons, List.length_append, List.getD_cons_succ] at *
      omega
theorem installM_len (Ls : List (List Ent)) (e : Ent) : ((installM Ls e).flatten).length ≤ Ls.flatten.length + 1 := by
  unfold installM
  split
  · have h1 := flat_set Ls (st Ls e.block) (installL (shardOf Ls e.block) e)
    have h2 := install_length (shardOf Ls e.block) e
    have h3 : (Ls.getD (st Ls e.block) []).length = (shardOf Ls e.block).length := rfl
    omega
  · omega
theorem installM_count (Ls : List (List Ent)) (e : Ent) : (installM Ls e).length = Ls.length := by
  unfold installM
  split
  · simp
  · rfl
theorem newM_len (s : Int) : (newM s).length ≤ 8 ∧ (newM s).flatten.length = 0 := by
  unfold newM
  split
  · exact ⟨by rw [List.length_replicate]; omega, by simp⟩
  · exact ⟨by simp, by simp⟩
theorem newME_cases (s : Int) : newME s = 0 ∨ newME s = 1 := by unfold newME; split <;> simp
theorem lookV_some {Ls : List (List Ent)} {b : Int} {x : Ent} (h : lookM Ls b = some x) : lookV Ls b = .tuple #[entV x, .bool true] := by unfold lookV; rw [h]; rfl
theorem lookV_none {Ls : List (List Ent)} {b : Int} (h : lookM Ls b = none) : lookV Ls b = .tuple #[.agg #[.int .i64 0, .int .i64 0, .int .i64 0, .int .i64 0, .int .i64 0, .int .i64 0], .bool false] := by unfold lookV; rw [h]; rfl
/-- what Lookup leaves, in two ways -/
def SeekMPost (w : World) (o : Option Ent) (r : Ending) (w' : World) : Prop :=
  (∃ (xb xk xv xm xz xo : Int), o = some ⟨xb, xk, xv, xm, xz, xo⟩ ∧ r = .returned (.tuple #[.agg #[.int .i64 xb, .int .i64 xk, .int .i64 xv, .int .i64 xm, .int .i64 xz, .int .i64 xo], .bool true]) ∧ Below w.heap.size w w') ∨
  (o = none ∧ r = .returned (.tuple #[.agg #[.int .i64 0, .int .i64 0, .int .i64 0, .int .i64 0, .int .i64 0, .int .i64 0], .bool false]) ∧ Below w.heap.size w w')
theorem seekM_of {w w' : World} {Ls : List (List Ent)} {b : Int} {r : Ending} (h : r = .returned (lookV Ls b) ∧ Below w.heap.size w w') : SeekMPost w (lookM Ls b) r w' := by
  obtain ⟨rfl, hb⟩ := h
  cases hf : lookM Ls b with
  | none => exact .inr ⟨rfl, by rw [lookV_none hf], hb⟩
  | some x => exact .inl ⟨x.block, x.kind, x.version, x.move, x.zone, x.offset, rfl, by rw [lookV_some hf], hb⟩
theorem ref_lookM {F : Nat → Prop} {Ls : List (List Ent)} {a : Option Addr} {n c : Nat} (b : Int) (w : World) (hl : MList w F a n c Ls) :
    Calls Try.prog 18 #[mapV a n c, .int .i64 b] w (SeekMPost w (lookM Ls b)) := (refLookupM_any F Ls b a n c w hl).mono fun _ _ h => seekM_of h
set_option maxHeartbeats 16000000 in
set_option maxRecDepth 20000 in
theorem mapMade_any (H : MapOk) (a : Option Addr) (len cap : Nat) (zs : List Int) (sh : Int) (w : World) (hrow : IsRow .i64 w a len cap zs) :
    Calls Try.prog 4 #[.slice a len cap, .int .i64 sh] w fun r w' => r = .returned (.bool true) ∧ Below w.heap.size w w' := by
  have hli := light_any a len cap w
  by_cases hlen : (len : Int) ≤ 300
  · rw [decide_eq_true hlen] at hli
    have hro := roll_any a len cap zs w hrow (by omega)
    have hzl : (zs.take len).length ≤ 100000 := by rw [List.length_take]; omega
    generalize zs.take len = L at hro hzl
    unfold RollPost at hro
    have HR := Lib.hid hro
    have HLI := Lib.hid hli
    have HMD := Lib.hid (fun W => mod_any sh 11 (by decide) (by decide) W)
    have hmr : 0 ≤ sh % 11 ∧ sh % 11 < 11 := ⟨Int.emod_nonneg _ (by decide), Int.emod_lt_of_pos _ (by decide)⟩
    generalize sh % 11 = R at *
    have HN1 := Lib.hid (fun W => H.new (R - 1) W)
    have HN2 := Lib.hid (fun W => refNewM_any (R - 1) W)
    obtain ⟨hnl, hnf⟩ := newM_len (R - 1)
    have hcase := newME_cases (R - 1)
    generalize newM (R - 1) = NM at *
    generalize newME (R - 1) = E at *
    clear hli hro
    rcases hcase with rfl | rfl
    · go_enter Try.func4, Try.ntmps4
      go_wp2_with (first
        | (go_at_call 10; ((with_reducible refine HLI.out.mono ?_); rintro e w0 ⟨rfl, rfl⟩))
        | (go_at_call 11; ((with_reducible refine HR.out.mono ?_); rintro e w1 ⟨g, rfl, hd1, hb1⟩))
        | (go_at_call 13; ((with_reducible refine (HMD.out _).mono ?_); rintro e w9 ⟨rfl, rfl⟩))
        | (go_at_call 12; ((with_reducible refine (HN1.out _).mono ?_); rintro r9 w2 ⟨a2, n2, c2, rfl, l2, h2⟩; have b2 := (hb1.trans (h2.mono hb1.size)).alloc (hb1.trans (h2.mono hb1.size)).size (mapRow a2 n2 c2); have l2 := l2.cut.on (Same.alloc w2 (mapRow a2 n2 c2)); have m2 := heap_alloc_new w2 (mapRow a2 n2 c2); have d2 := dice_on (dice_on hd1 h2 (Nat.le_refl _)) ((Below.refl _ _).alloc (Nat.le_refl _) (mapRow a2 n2 c2)) (Nat.le_refl _)))
        | (go_at_call 14; ((with_reducible refine (HN2.out _).mono ?_); rintro r9 w3 ⟨a3, n3, c3, rfl, l3, h3⟩; have b3 := (b2.trans (h3.mono b2.size)).alloc (b2.trans (h3.mono b2.size)).size (mapRow a3 n3 c3); have l2 := (l2.on (Same.below h3)).on (Same.alloc w3 (mapRow a3 n3 c3)); have l3 := l3.cut.on (Same.alloc w3 (mapRow a3 n3 c3)); have m3 := e_al (e_on h3 m2 (e_lt m2)) (mapRow a3 n3 c3); have k3 := heap_alloc_new w3 (mapRow a3 n3 c3); have d3 := dice_on (dice_on d2 h3 (Nat.le_refl _)) ((Below.refl _ _).alloc (Nat.le_refl _) (mapRow a3 n3 c3)) (Nat.le_refl _); have o2 := map_row m3; have o3 := map_row k3))
        | (go_at_call 15; ((with_reducible refine (refSameM_any _ _ NM a2 a3 n2 c2 n3 c3 _ l2 l3).mono ?_); rintro r9 w4 ⟨rfl, h4⟩; have b4 := b3.trans (h4.mono b3.size); have l4 := l3.on (Same.below h4); have m4 := e_on h4 k3 (e_lt k3); have d4 := dice_on d3 h4 (Nat.le_refl _); clear o2 o3 m2 m3 k3)))
      have hgBw := dice_lt hd1
      have hgb := dice_base hd1
      have hs1 := hb1.size
      have hz2 := h2.size
      have hz3 := h3.size
      simp only [World.size_alloc] at hz3
      have hz4 := h4.size
      simp only [World.size_alloc] at hz4
      obtain ⟨B, hB⟩ : ∃ B, B = w1.heap.size := ⟨_, rfl⟩
      obtain ⟨A, hA⟩ : ∃ A, A = w3.heap.size := ⟨_, rfl⟩
      rw [← hB] at hgBw hs1 hz2
      rw [← hA] at m4
      rw [← hA]
      have hgB : g < B := hgBw
      have hgA : g < A := by omega
      have hbA : w.heap.size ≤ A := by omega
      have hl4 : MList w4 (fun b => B ≤ b ∧ b ≠ A) a3 n3 c3 NM := l4.mono (fun b _ h9 => ⟨by have := h9.1; simp only [World.size_alloc] at this; omega, by have := h9.2; omega⟩)
      have hB4 : B ≤ w4.heap.size := by omega
      have hAW := e_lt m4
      have hln := hl4.length
      clear hA hB
      go_loopw [10] (fun x wr => ∃ (j k : Nat) (Ls : List (List Ent)) (a : Option Addr) (n c : Nat), x = .int .i64 (j : Int) ∧ j ≤ 25 ∧ wr.heap[A]? = some (mapRow a n c) ∧ MList wr (fun b => B ≤ b ∧ b ≠ A) a n c Ls ∧ n ≤ 8 ∧ Ls.flatten.length ≤ j ∧ k ≤ 9 * j ∧ Dice wr w.heap.size g L k ∧ B ≤ wr.heap.size ∧ Below w.heap.size w wr) (fun x _ => 25 - (intOf x).toNat)
      case atStart => exact ⟨0, 0, NM, a3, n3, c3, rfl, by omega, m4, hl4, by omega, by omega, by omega, d4, hB4, b4⟩
      case round =>
        obtain ⟨j, k, Ls, sa, n, c, rfl, hj, hm, hl, hn8, hfl, hk, hd, hs, hb⟩ := hrel
        clear l2 l3 l4 hl4 m4 b4 d4 hln
        have hlsn := hl.length
        by_cases hlt : j < 25
        · have hjI : (j : Int) < 25 := by omega
          have hrs := rest_dice wr w.heap.size g L k hd hzl (by omega)
          have hk6 := stp5_le L k
          rcases map_rest L.length k with hz | hz
          · rw [hz] at hrs
            have b4 := hb.drew
            have HRS := Lib.hid hrs
            clear hrs hd hl hb hz hk6 hm
            go_wp2_with (first
              | (go_at_call 16; ((with_reducible refine HRS.out.mono ?_); rintro r9 w2 ⟨rfl, rfl⟩))
              | (go_at_call 9; ((with_reducible refine (mapAwake_any H _).mono ?_); rintro r9 w99 ⟨rfl, h99⟩)))
            go_ret
            exact ⟨rfl, b4.trans (h99.mono b4.size)⟩
          · generalize max (0 : Int) ((L.length : Int) - (k : Int)) = RR at hz hrs
            have hAN : A < wr.heap.size := e_lt hm
            have S4 : SitM wr.drew w B A wr.heap.size w.heap.size g L k sa n c Ls := ⟨(show MList wr.drew (fun b => B ≤ b ∧ b ≠ A) sa n c Ls from hl.on ⟨Nat.le_refl _, fun _ _ _ => rfl⟩).cut.mono (fun b _ h9 => ⟨h9.1.1, h9.1.2, h9.2⟩), dice_drew hd, Nat.le_refl _, hb.drew⟩
            have hm4 : wr.drew.heap[A]? = some (mapRow sa n c) := hm
            have HRS := Lib.hid hrs
            have hgN : g < wr.heap.size := by omega
            have hBN : B ≤ wr.heap.size := hs
            clear hrs hd hl hb hm hs
            generalize wr.heap.size = N at *
            generalize wr.drew = wd at *
            go_wp2_with (first
              | (go_at_call 16; ((with_reducible refine HRS.out.mono ?_); rintro r9 w2 ⟨rfl, rfl⟩))
              | (go_at_call 17; ((with_reducible refine (rolled9_any _ _ _ _ _ S4.d hzl).mono ?_); rintro r9 w3 ⟨eb, ek, ev, em, ez, eo, rfl, ok3, q2, q3, hd3, hg3⟩; clear ok3 q2 q3; have S3 := S4.next hgB hd3 hg3; have s3 := S3.s; have m3 := ent_row_grown hg3 hm4 (by omega); have S5 := (S3.al (entRow eb ek ev em ez eo)).al (placeRow ez eo); have e5 := heap_first w3 (entRow eb ek ev em ez eo) (placeRow ez eo); have p5 := heap_second w3 (entRow eb ek ev em ez eo) (placeRow ez eo); have m5 := e_al (e_al m3 (entRow eb ek ev em ez eo)) (placeRow ez eo); have o5 := map_row m5; clear S3 S4 hm4 hd3 hg3 m3))
              | (go_at_call 18; ((with_reducible refine (ref_lookM eb _ S5.l).mono ?_); rintro r9 w5 (⟨xb, xk, xv, xm, xz, xo, hx, rfl, h5⟩ | ⟨hx, rfl, h5⟩) <;> (first | (have hx9 : lookM Ls eb = some ⟨xb, xk, xv, xm, xz, xo⟩ := hx; clear hx; have S6 := (S5.on h5).al (entRow xb xk xv xm xz xo); have e6 := e_al (e_on h5 e5 (e_lt e5)) (entRow xb xk xv xm xz xo); have p6 := e_al (e_on h5 p5 (e_lt p5)) (entRow xb xk xv xm xz xo); have m6 := e_al (e_on h5 m5 (e_lt m5)) (entRow xb xk xv xm xz xo); have x6 := heap_alloc_new w5 (entRow xb xk xv xm xz xo); have x6lt : w3.heap.size + 2 ≤ w5.heap.size := (by have h8 := h5.size; simp only [World.size_alloc] at h8; omega); clear S5 e5 p5 m5 o5) | (clear hx; have S6 := (S5.on h5).al (entRow 0 0 0 0 0 0); have e6 := e_al (e_on h5 e5 (e_lt e5)) (entRow 0 0 0 0 0 0); have p6 := e_al (e_on h5 p5 (e_lt p5)) (entRow 0 0 0 0 0 0); have m6 := e_al (e_on h5 m5 (e_lt m5)) (entRow 0 0 0 0 0 0); clear S5 e5 p5 m5 o5))))
              | (go_at_call 19; ((with_reducible refine (next_any _ _ _ _ _ 2 S6.d hzl (by decide) (by decide)).mono ?_); rintro r9 w7 ⟨rfl, hd7, hg7, hs7⟩; have S7 := S6.next hgB hd7 hg7; generalize nxt L (stp5 L k) 2 = N2 at *; rcases map_two N2 with t2 | t2)))
            · have hlk2 := hx9
              unfold lookM at hlk2
              have hv : validM Ls = true ∧ 0 ≤ eb := by
                by_cases h : validM Ls = true ∧ 0 ≤ eb
                · exact h
                · rw [if_neg h] at hlk2; cases hlk2
              rw [if_pos hv] at hlk2
              have xv1 := (ok_iff.1 ((valid_iff.1 (shard_valid hv.1 eb)).1 _ (look_mem hlk2))).2.1
              have xv2 := (ok_iff.1 ((valid_iff.1 (shard_valid hv.1 eb)).1 _ (look_mem hlk2))).2.2.1
              try simp only at xv1 xv2
              clear hlk2 hv
              have nr := nxt_range L (stp L (stp5 L k)) 2 (by decide)
              have hw5 := x6lt
              have e7 := ent_row_grown hg7 e6 (by omega)
              have p7 := ent_row_grown hg7 p6 (by omega)
              have x7 := ent_row_grown hg7 x6 (by omega)
              have m7 := ent_row_grown hg7 m6 (by omega)
              have HNX := Lib.hid (fun W (s : SitM W w B A N w.heap.size g L (stp L (stp5 L k)) sa n c Ls) => next_any W w.heap.size g L _ 2 s.d hzl (by decide) (by decide))
              unfold NextPost at HNX
              generalize nxt L (stp L (stp5 L k)) 2 = N3 at *
              have wr1 : IntKind.i64.wrap (xv + N3) = xv + N3 := IntWalk.i64_in _ (by omega)
              have S8 : SitM w7.drew w B A N w.heap.size g L (stp L (stp5 L k)) sa n c Ls := S7.dr
              refine Plan.start (fun W => Six W w5.heap.size xb xk xv xm xz xo) [(0, true), (1, true), (2, true), (3, true), (4, true), (5, false), (6, true), (7, false), (8, true), (9, false)] (by kernel_rfl) (by kernel_rfl) (by kernel_rfl) (by kernel_rfl) (entry_row x7) ?_
              simp only [List.map_cons, List.map_nil, List.getElem?_toArray, List.getElem?_cons_zero, List.getElem?_cons_succ]
              repeat (first | (refine Plan.take ?_ (by rfl) ?_ ?_; rotate_left; (· rintro w9 ⟨u0, u1, u2, u3, u4, u5⟩; go_simp; (try rw [if_neg (by omega)]); all_goals (with_reducible rfl)); simp only [Act.put, List.setIfInBounds_toArray, List.set_cons_zero, List.set_cons_succ]) | (refine Plan.pass (by rfl) ?_; simp only [Act.put, List.setIfInBounds_toArray, List.set_cons_zero, List.set_cons_succ]))
              refine Plan.call (by rfl) 19 _ ?_ (HNX.out _ S8) ?_
              · go_simp
              rintro r9 w8 ⟨rfl, hd8, hg8, hs8⟩
              have S9 := S8.next hgB hd8 hg8
              have e8 := ent_row_grown hg8 (show w7.drew.heap[w3.heap.size]? = _ from e7) (by omega)
              have p8 := ent_row_grown hg8 (show w7.drew.heap[w3.heap.size + 1]? = _ from p7) (by omega)
              have x8 := ent_row_grown hg8 (show w7.drew.heap[w5.heap.size]? = _ from x7) (by omega)
              have m8 := ent_row_grown hg8 (show w7.drew.heap[A]? = _ from m7) (by omega)
              refine ⟨_, rfl, entry_row x8, ?_⟩
              simp only [Act.put, List.setIfInBounds_toArray, List.set_cons_zero, List.set_cons_succ]
              repeat (first | (refine Plan.take ?_ (by rfl) ?_ ?_; rotate_left; (· rintro w9 ⟨u0, u1, u2, u3, u4, u5⟩; go_simp; (try rw [if_neg (by omega)]); all_goals (with_reducible rfl)); simp only [Act.put, List.setIfInBounds_toArray, List.set_cons_zero, List.set_cons_succ]) | (refine Plan.pass (by rfl) ?_; simp only [Act.put, List.setIfInBounds_toArray, List.set_cons_zero, List.set_cons_succ]))
              have e9 := (setRow_other w8 (w3.heap.size + 1) w3.heap.size #[.int .i64 xz, .int .i64 xo] (by omega)).trans e8
              have p9 := setRow_heap w8 (w3.heap.size + 1) _ #[.int .i64 xz, .int .i64 xo] _ _ p8
              have x9 := (setRow_other w8 (w3.heap.size + 1) w5.heap.size #[.int .i64 xz, .int .i64 xo] (by omega)).trans x8
              have m9 := (setRow_other w8 (w3.heap.size + 1) A #[.int .i64 xz, .int .i64 xo] (by omega)).trans m8
              have S10 := S9.row hgN (r := w3.heap.size + 1) (by omega) #[.int .i64 xz, .int .i64 xo]
              refine Plan.store (by rfl) 26 (.tmp 12) (.tmp 75) rfl (w3.heap.size + 1) #[.int .i64 xz, .int .i64 xo] rfl rfl 26 _ p8 place_info rfl (by simp [Value.oneCell']) (entry_row x9) ?_
              simp only [Act.put]
              repeat (first | (refine Plan.take ?_ (by rfl) ?_ ?_; rotate_left; (· rintro w9 ⟨u0, u1, u2, u3, u4, u5⟩; go_simp; (try rw [if_neg (by omega)]); all_goals (with_reducible rfl)); simp only [Act.put, List.setIfInBounds_toArray, List.set_cons_zero, List.set_cons_succ]) | (refine Plan.pass (by rfl) ?_; simp only [Act.put, List.setIfInBounds_toArray, List.set_cons_zero, List.set_cons_succ]))
              generalize w8.setRow (w3.heap.size + 1) #[.int .i64 xz, .int .i64 xo] = w9 at *
              have e10 := map_sc (j := 2) (u := .int .i64 (xv + N3)) e9
              have p10 := (Below.heap_setCell w9 ⟨w3.heap.size, 2, none⟩ (.int .i64 (xv + N3)) (w3.heap.size + 1) (by show w3.heap.size + 1 ≠ w3.heap.size; omega)).trans p9
              have x10 := (Below.heap_setCell w9 ⟨w3.heap.size, 2, none⟩ (.int .i64 (xv + N3)) w5.heap.size (by show w5.heap.size ≠ w3.heap.size; omega)).trans x9
              have m10 := (Below.heap_setCell w9 ⟨w3.heap.size, 2, none⟩ (.int .i64 (xv + N3)) A (by show A ≠ w3.heap.size; omega)).trans m9
              have S11 := S10.row hgN (r := w3.heap.size) (by omega) #[.int .i64 eb, .int .i64 ek, .int .i64 (xv + N3), .int .i64 em, .int .i64 ez, .int .i64 eo]
              rw [show (#[(.int .i64 eb : Value), .int .i64 ek, .int .i64 (xv + N3), .int .i64 em, .int .i64 ez, .int .i64 eo] : Array Value) = (#[(.int .i64 eb : Value), .int .i64 ek, .int .i64 ev, .int .i64 em, .int .i64 ez, .int .i64 eo] : Array Value).setIfInBounds 2 (.int .i64 (xv + N3)) from rfl, ← setCell_eq_setRow w9 w3.heap.size 2 _ _ _ (.int .i64 (xv + N3)) e9] at S11
              obtain ⟨m0, m1, m2, m3, m4, m5⟩ := entry_row e9
              have fr2 : w9.frozen? ⟨w3.heap.size, 2, none⟩ = false := by simp [World.frozen?, e9]
              refine Plan.carry (by rfl) (Put.wp_store_int 3 _ _ rfl w3.heap.size 2 .i64 (xv + N3) (by rfl) (by rfl) ⟨_, m2⟩ fr2 Put.int_info1 ⟨entry_row x10, ?_⟩)
              simp only [Act.put]
              refine Plan.ends ?_
              generalize w9.setCell ⟨w3.heap.size, 2, none⟩ (.int .i64 (xv + N3)) = WQ at *
              obtain ⟨K, hK, hKQ⟩ : ∃ K, K = stp L (stp L (stp5 L k)) ∧ K ≤ 9 * j + 7 := ⟨_, rfl, by have h1 := stp_le L (stp L (stp5 L k)); have h2 := stp_le L (stp5 L k); omega⟩
              rw [← hK] at S11
              have sQ := S11
              have eQ := e10
              have pQ := p10
              have mQ := m10
              rw [show ((#[(.int .i64 eb : Value), .int .i64 ek, .int .i64 ev, .int .i64 em, .int .i64 ez, .int .i64 eo] : Array Value).setIfInBounds 2 (.int .i64 (xv + N3))) = #[.int .i64 eb, .int .i64 ek, .int .i64 (xv + N3), .int .i64 em, .int .i64 ez, .int .i64 eo] from rfl] at eQ
              generalize xv + N3 = V at *
              obtain ⟨fz, hfz⟩ : ∃ z, z = xz := ⟨_, rfl⟩
              obtain ⟨fo, hfo⟩ : ∃ z, z = xo := ⟨_, rfl⟩
              rw [← hfz, ← hfo] at pQ
              clear hfz hfo e6 p6 x6 m6 e7 p7 x7 m7 e8 p8 x8 m8 e9 p9 x9 m9 e10 p10 x10 m10 S8 S9 S10 S11 S6 S7 hg7 hg8 hd7 hd8 hx9 m0 m1 m2 m3 m4 m5 fr2 HNX nr wr1 xv1 xv2
              go_wp2_with fail
              have hw3 : g ≠ w3.heap.size := by omega
              have hw4 : g ≠ w3.heap.size + 1 := by omega
              have hwA : g ≠ A := by omega
              obtain ⟨sl1, sl2⟩ : stp L K ≤ K + 1 ∧ stp L (stp L K) ≤ stp L K + 1 := ⟨stp_le _ _, stp_le _ _⟩
              have HA := Lib.hid (fun W K' (s : SitM W w B A N w.heap.size g L K' sa n c Ls) cut tz => mapAgree_any H (fun b => B ≤ b ∧ b ≠ A ∧ b < N) Ls ⟨eb, ek, V, em, ez, eo⟩ eb V cut fz fo tz 1 sa n c W s.l (fun _ => by omega))
              have HNX := Lib.hid (fun m (h1 : 1 ≤ m) (h2 : m ≤ 4611686018427387904) W K' (s : SitM W w B A N w.heap.size g L K' sa n c Ls) => next_any W w.heap.size g L K' m s.d hzl h1 h2)
              unfold NextPost at HNX
              have SD := sQ.dr
              refine Plan.start (fun W => Six W w3.heap.size eb ek V em ez eo ∧ (W.cell? ⟨w3.heap.size + 1, 0, none⟩ = some (.int .i64 fz) ∧ W.cell? ⟨w3.heap.size + 1, 1, none⟩ = some (.int .i64 fo)) ∧ W.cell? ⟨A, 0, none⟩ = some (.slice sa n c)) [(0, true), (1, true), (2, true), (3, true), (4, true), (5, true), (6, true), (8, true), (9, true), (7, false), (10, false), (11, true), (12, false), (13, true)] (by kernel_rfl) (by kernel_rfl) (by kernel_rfl) (by kernel_rfl) ⟨entry_row eQ, place_row pQ, map_row mQ⟩ ?_
              simp only [List.map_cons, List.map_nil, List.getElem?_toArray, List.getElem?_cons_zero, List.getElem?_cons_succ]
              repeat (first | (refine Plan.take ?_ (by rfl) ?_ ?_; rotate_left; (· rintro w9 ⟨⟨u0, u1, u2, u3, u4, u5⟩, ⟨v0, v1⟩, v2⟩; go_simp; (try rw [if_neg (by omega)]); all_goals (with_reducible rfl)); simp only [Act.put, List.setIfInBounds_toArray, List.set_cons_zero, List.set_cons_succ]) | (refine Plan.pass (by rfl) ?_; simp only [Act.put, List.setIfInBounds_toArray, List.set_cons_zero, List.set_cons_succ]))
              refine Plan.call (by rfl) 19 _ ?_ (HNX.out 30 (by decide) (by decide) _ K SD) ?_
              · go_simp
              rintro r9 y1 ⟨rfl, hd8, hg8, hs8⟩
              have S1 := SD.next hgB hd8 hg8
              have e1 := ent_row_grown hg8 (show WQ.drew.heap[w3.heap.size]? = _ from eQ) (fun h => hw3 h.symm)
              have p1 := ent_row_grown hg8 (show WQ.drew.heap[w3.heap.size + 1]? = _ from pQ) (fun h => hw4 h.symm)
              have m1 := ent_row_grown hg8 (show WQ.drew.heap[A]? = _ from mQ) (fun h => hwA h.symm)
              clear hd8 hg8
              refine ⟨_, rfl, ⟨entry_row e1, place_row p1, map_row m1⟩, ?_⟩
              simp only [Act.put, List.setIfInBounds_toArray, List.set_cons_zero, List.set_cons_succ]
              repeat (first | (refine Plan.take ?_ (by rfl) ?_ ?_; rotate_left; (· rintro w9 ⟨⟨u0, u1, u2, u3, u4, u5⟩, ⟨v0, v1⟩, v2⟩; go_simp; (try rw [if_neg (by omega)]); all_goals (with_reducible rfl)); simp only [Act.put, List.setIfInBounds_toArray, List.set_cons_zero, List.set_cons_succ]) | (refine Plan.pass (by rfl) ?_; simp only [Act.put, List.setIfInBounds_toArray, List.set_cons_zero, List.set_cons_succ]))
              refine Plan.call (by rfl) 19 _ ?_ (HNX.out 5 (by decide) (by decide) _ _ S1) ?_
              · go_simp
              rintro r9 y2 ⟨rfl, hd9, hg9, hs9⟩
              have S2 := S1.next hgB hd9 hg9
              have e2 := ent_row_grown hg9 e1 (fun h => hw3 h.symm)
              have p2 := ent_row_grown hg9 p1 (fun h => hw4 h.symm)
              have m2 := ent_row_grown hg9 m1 (fun h => hwA h.symm)
              clear hd9 hg9 e1 p1 m1
              refine ⟨_, rfl, ⟨entry_row e2, place_row p2, map_row m2⟩, ?_⟩
              simp only [Act.put, List.setIfInBounds_toArray, List.set_cons_zero, List.set_cons_succ]
              repeat (first | (refine Plan.take ?_ (by rfl) ?_ ?_; rotate_left; (· rintro w9 ⟨⟨u0, u1, u2, u3, u4, u5⟩, ⟨v0, v1⟩, v2⟩; go_simp; (try rw [if_neg (by omega)]); all_goals (with_reducible rfl)); simp only [Act.put, List.setIfInBounds_toArray, List.set_cons_zero, List.set_cons_succ]) | (refine Plan.pass (by rfl) ?_; simp only [Act.put, List.setIfInBounds_toArray, List.set_cons_zero, List.set_cons_succ]))
              refine Plan.call (by rfl) 8 _ ?_ (HA.out _ _ S2 (nxt L K 30) (nxt L (stp L K) 5)) ?_
              · go_simp
              rintro r9 y3 ⟨rfl, h10⟩
              have S9 := S2.on h10
              have e3 := e_on h10 e2 (e_lt e2)
              have p3 := e_on h10 p2 (e_lt p2)
              have m3 := e_on h10 m2 (e_lt m2)
              clear h10 e2 p2 m2
              refine ⟨_, rfl, ⟨entry_row e3, place_row p3, map_row m3⟩, ?_⟩
              simp only [Act.put, List.setIfInBounds_toArray, List.set_cons_zero, List.set_cons_succ]
              repeat (first | (refine Plan.take ?_ (by rfl) ?_ ?_; rotate_left; (· rintro w9 ⟨⟨u0, u1, u2, u3, u4, u5⟩, ⟨v0, v1⟩, v2⟩; go_simp; (try rw [if_neg (by omega)]); all_goals (with_reducible rfl)); simp only [Act.put, List.setIfInBounds_toArray, List.set_cons_zero, List.set_cons_succ]) | (refine Plan.pass (by rfl) ?_; simp only [Act.put, List.setIfInBounds_toArray, List.set_cons_zero, List.set_cons_succ]))
              refine Plan.ends ?_
              clear S1 S2 SD sQ eQ pQ mQ HA
              generalize nxt L K 30 = N14 at *
              generalize nxt L (stp L K) 5 = N5 at *
              obtain ⟨c0, c1, c2, c3, c4, c5⟩ := entry_row e3
              have k0 := map_row m3
              have HIN := Lib.hid (refInstM_any (fun b => B ≤ b ∧ b ≠ A ∧ b < N) Ls ⟨eb, ek, V, em, ez, eo⟩ sa n c y3 S9.l (fun _ M hM => Nat.le_trans (flat_each (Nat.le_refl _) M hM) (by omega)))
              unfold InstMPost at HIN
              have hil := installM_len Ls ⟨eb, ek, V, em, ez, eo⟩
              have hin := installM_count Ls ⟨eb, ek, V, em, ez, eo⟩
              go_wp2_with (first
                | (go_at_call 20; ((with_reducible refine HIN.out.mono ?_); rintro r9 y4 ⟨a9, n9, c9, rfl, l9, h9⟩; have S10 := S9.on h9; have m4 := e_on h9 m3 (e_lt m3); have hl9 := l9.length))
                | ((with_reducible refine Plan.store_lit 24 (.tmp 8) _ A ?_ m4 ?_ ?_ ?_ ?_ ?_ ?_); rotate_left; (· rfl); (· rfl); (· exact map_info); (· rfl); (· simp [Value.oneCell']); simp only [Act.put]))
              have hs9 := S9.s
              have hs4 := e_lt m4
              have S12 := S10.box hgA hbA #[.slice a9 n9 c9]
              have m5 := setRow_heap y4 A _ #[.slice a9 n9 c9] _ _ m4
              have l10 := (l9.on (Same.row (r := A) (fun h9 => by rcases h9 with h9 | h9; (· exact h9.2.1 rfl); (· have := e_lt m3; omega)) #[.slice a9 n9 c9])).mono (G := fun b => B ≤ b ∧ b ≠ A) (fun b _ h9 => by rcases h9 with h9 | h9; (· exact ⟨h9.1, h9.2.1⟩); (· have := e_lt m3; exact ⟨by omega, by omega⟩))
              go_roundw
              case rel => exact ⟨j + 1, _, _, a9, n9, c9, by go_num, by omega, m5, l10, by omega, by omega, by omega, S12.d, Nat.le_trans hBN S12.s, S12.b⟩
              case measure => simp [intOf]; omega
            · have eQ := ent_row_grown hg7 e6 (by have := x6lt; omega)
              have pQ := ent_row_grown hg7 p6 (by have := x6lt; omega)
              have mQ := ent_row_grown hg7 m6 (by omega)
              obtain ⟨K, hK, hKQ⟩ : ∃ K, K = stp L (stp5 L k) ∧ K ≤ 9 * j + 7 := ⟨_, rfl, by have h2 := stp_le L (stp5 L k); omega⟩
              rw [← hK] at S7
              have sQ := S7
              obtain ⟨V, hV⟩ : ∃ z, z = ev := ⟨_, rfl⟩
              obtain ⟨fz, hfz⟩ : ∃ z, z = ez := ⟨_, rfl⟩
              obtain ⟨fo, hfo⟩ : ∃ z, z = eo := ⟨_, rfl⟩
              rw [← hV] at eQ
              rw [← hfz, ← hfo] at pQ
              clear hV hfz hfo
              clear S6 S7 e6 p6 x6 m6 hg7 hd7 hx9
              generalize w7 = WQ at *
              have hw3 : g ≠ w3.heap.size := by omega
              have hw4 : g ≠ w3.heap.size + 1 := by omega
              have hwA : g ≠ A := by omega
              obtain ⟨sl1, sl2⟩ : stp L K ≤ K + 1 ∧ stp L (stp L K) ≤ stp L K + 1 := ⟨stp_le _ _, stp_le _ _⟩
              have HA := Lib.hid (fun W K' (s : SitM W w B A N w.heap.size g L K' sa n c Ls) cut tz => mapAgree_any H (fun b => B ≤ b ∧ b ≠ A ∧ b < N) Ls ⟨eb, ek, V, em, ez, eo⟩ eb V cut fz fo tz 1 sa n c W s.l (fun _ => by omega))
              have HNX := Lib.hid (fun m (h1 : 1 ≤ m) (h2 : m ≤ 4611686018427387904) W K' (s : SitM W w B A N w.heap.size g L K' sa n c Ls) => next_any W w.heap.size g L K' m s.d hzl h1 h2)
              unfold NextPost at HNX
              have SD := sQ.dr
              refine Plan.start (fun W => Six W w3.heap.size eb ek V em ez eo ∧ (W.cell? ⟨w3.heap.size + 1, 0, none⟩ = some (.int .i64 fz) ∧ W.cell? ⟨w3.heap.size + 1, 1, none⟩ = some (.int .i64 fo)) ∧ W.cell? ⟨A, 0, none⟩ = some (.slice sa n c)) [(0, true), (1, true), (2, true), (3, true), (4, true), (5, true), (6, true), (8, true), (9, true), (7, false), (10, false), (11, true), (12, false), (13, true)] (by kernel_rfl) (by kernel_rfl) (by kernel_rfl) (by kernel_rfl) ⟨entry_row eQ, place_row pQ, map_row mQ⟩ ?_
              simp only [List.map_cons, List.map_nil, List.getElem?_toArray, List.getElem?_cons_zero, List.getElem?_cons_succ]
              repeat (first | (refine Plan.take ?_ (by rfl) ?_ ?_; rotate_left; (· rintro w9 ⟨⟨u0, u1, u2, u3, u4, u5⟩, ⟨v0, v1⟩, v2⟩; go_simp; (try rw [if_neg (by omega)]); all_goals (with_reducible rfl)); simp only [Act.put, List.setIfInBounds_toArray, List.set_cons_zero, List.set_cons_succ]) | (refine Plan.pass (by rfl) ?_; simp only [Act.put, List.setIfInBounds_toArray, List.set_cons_zero, List.set_cons_succ]))
              refine Plan.call (by rfl) 19 _ ?_ (HNX.out 30 (by decide) (by decide) _ K SD) ?_
              · go_simp
              rintro r9 y1 ⟨rfl, hd8, hg8, hs8⟩
              have S1 := SD.next hgB hd8 hg8
              have e1 := ent_row_grown hg8 (show WQ.drew.heap[w3.heap.size]? = _ from eQ) (fun h => hw3 h.symm)
              have p1 := ent_row_grown hg8 (show WQ.drew.heap[w3.heap.size + 1]? = _ from pQ) (fun h => hw4 h.symm)
              have m1 := ent_row_grown hg8 (show WQ.drew.heap[A]? = _ from mQ) (fun h => hwA h.symm)
              clear hd8 hg8
              refine ⟨_, rfl, ⟨entry_row e1, place_row p1, map_row m1⟩, ?_⟩
              simp only [Act.put, List.setIfInBounds_toArray, List.set_cons_zero, List.set_cons_succ]
              repeat (first | (refine Plan.take ?_ (by rfl) ?_ ?_; rotate_left; (· rintro w9 ⟨⟨u0, u1, u2, u3, u4, u5⟩, ⟨v0, v1⟩, v2⟩; go_simp; (try rw [if_neg (by omega)]); all_goals (with_reducible rfl)); simp only [Act.put, List.setIfInBounds_toArray, List.set_cons_zero, List.set_cons_succ]) | (refine Plan.pass (by rfl) ?_; simp only [Act.put, List.setIfInBounds_toArray, List.set_cons_zero, List.set_cons_succ]))
              refine Plan.call (by rfl) 19 _ ?_ (HNX.out 5 (by decide) (by decide) _ _ S1) ?_
              · go_simp
              rintro r9 y2 ⟨rfl, hd9, hg9, hs9⟩
              have S2 := S1.next hgB hd9 hg9
              have e2 := ent_row_grown hg9 e1 (fun h => hw3 h.symm)
              have p2 := ent_row_grown hg9 p1 (fun h => hw4 h.symm)
              have m2 := ent_row_grown hg9 m1 (fun h => hwA h.symm)
              clear hd9 hg9 e1 p1 m1
              refine ⟨_, rfl, ⟨entry_row e2, place_row p2, map_row m2⟩, ?_⟩
              simp only [Act.put, List.setIfInBounds_toArray, List.set_cons_zero, List.set_cons_succ]
              repeat (first | (refine Plan.take ?_ (by rfl) ?_ ?_; rotate_left; (· rintro w9 ⟨⟨u0, u1, u2, u3, u4, u5⟩, ⟨v0, v1⟩, v2⟩; go_simp; (try rw [if_neg (by omega)]); all_goals (with_reducible rfl)); simp only [Act.put, List.setIfInBounds_toArray, List.set_cons_zero, List.set_cons_succ]) | (refine Plan.pass (by rfl) ?_; simp only [Act.put, List.setIfInBounds_toArray, List.set_cons_zero, List.set_cons_succ]))
              refine Plan.call (by rfl) 8 _ ?_ (HA.out _ _ S2 (nxt L K 30) (nxt L (stp L K) 5)) ?_
              · go_simp
              rintro r9 y3 ⟨rfl, h10⟩
              have S9 := S2.on h10
              have e3 := e_on h10 e2 (e_lt e2)
              have p3 := e_on h10 p2 (e_lt p2)
              have m3 := e_on h10 m2 (e_lt m2)
              clear h10 e2 p2 m2
              refine ⟨_, rfl, ⟨entry_row e3, place_row p3, map_row m3⟩, ?_⟩
              simp only [Act.put, List.setIfInBounds_toArray, List.set_cons_zero, List.set_cons_succ]
              repeat (first | (refine Plan.take ?_ (by rfl) ?_ ?_; rotate_left; (· rintro w9 ⟨⟨u0, u1, u2, u3, u4, u5⟩, ⟨v0, v1⟩, v2⟩; go_simp; (try rw [if_neg (by omega)]); all_goals (with_reducible rfl)); simp only [Act.put, List.setIfInBounds_toArray, List.set_cons_zero, List.set_cons_succ]) | (refine Plan.pass (by rfl) ?_; simp only [Act.put, List.setIfInBounds_toArray, List.set_cons_zero, List.set_cons_succ]))
              refine Plan.ends ?_
              clear S1 S2 SD sQ eQ pQ mQ HA
              generalize nxt L K 30 = N14 at *
              generalize nxt L (stp L K) 5 = N5 at *
              obtain ⟨c0, c1, c2, c3, c4, c5⟩ := entry_row e3
              have k0 := map_row m3
              have HIN := Lib.hid (refInstM_any (fun b => B ≤ b ∧ b ≠ A ∧ b < N) Ls ⟨eb, ek, V, em, ez, eo⟩ sa n c y3 S9.l (fun _ M hM => Nat.le_trans (flat_each (Nat.le_refl _) M hM) (by omega)))
              unfold InstMPost at HIN
              have hil := installM_len Ls ⟨eb, ek, V, em, ez, eo⟩
              have hin := installM_count Ls ⟨eb, ek, V, em, ez, eo⟩
              go_wp2_with (first
                | (go_at_call 20; ((with_reducible refine HIN.out.mono ?_); rintro r9 y4 ⟨a9, n9, c9, rfl, l9, h9⟩; have S10 := S9.on h9; have m4 := e_on h9 m3 (e_lt m3); have hl9 := l9.length))
                | ((with_reducible refine Plan.store_lit 24 (.tmp 8) _ A ?_ m4 ?_ ?_ ?_ ?_ ?_ ?_); rotate_left; (· rfl); (· rfl); (· exact map_info); (· rfl); (· simp [Value.oneCell']); simp only [Act.put]))
              have hs9 := S9.s
              have hs4 := e_lt m4
              have S12 := S10.box hgA hbA #[.slice a9 n9 c9]
              have m5 := setRow_heap y4 A _ #[.slice a9 n9 c9] _ _ m4
              have l10 := (l9.on (Same.row (r := A) (fun h9 => by rcases h9 with h9 | h9; (· exact h9.2.1 rfl); (· have := e_lt m3; omega)) #[.slice a9 n9 c9])).mono (G := fun b => B ≤ b ∧ b ≠ A) (fun b _ h9 => by rcases h9 with h9 | h9; (· exact ⟨h9.1, h9.2.1⟩); (· have := e_lt m3; exact ⟨by omega, by omega⟩))
              go_roundw
              case rel => exact ⟨j + 1, _, _, a9, n9, c9, by go_num, by omega, m5, l10, by omega, by omega, by omega, S12.d, Nat.le_trans hBN S12.s, S12.b⟩
              case measure => simp [intOf]; omega
            · obtain ⟨K, hK, hKQ⟩ : ∃ K, K = (stp5 L k) ∧ K ≤ 9 * j + 7 := ⟨_, rfl, by omega⟩
              rw [← hK] at S6
              have sQ := S6
              have eQ := e6
              have pQ := p6
              have mQ := m6
              obtain ⟨V, hV⟩ : ∃ z, z = ev := ⟨_, rfl⟩
              obtain ⟨fz, hfz⟩ : ∃ z, z = ez := ⟨_, rfl⟩
              obtain ⟨fo, hfo⟩ : ∃ z, z = eo := ⟨_, rfl⟩
              rw [← hV] at eQ
              rw [← hfz, ← hfo] at pQ
              clear hV hfz hfo
              clear S6 e6 p6 m6
              generalize w5.alloc (entRow 0 0 0 0 0 0) = WQ at *
              have hw3 : g ≠ w3.heap.size := by omega
              have hw4 : g ≠ w3.heap.size + 1 := by omega
              have hwA : g ≠ A := by omega
              obtain ⟨sl1, sl2⟩ : stp L K ≤ K + 1 ∧ stp L (stp L K) ≤ stp L K + 1 := ⟨stp_le _ _, stp_le _ _⟩
              have HA := Lib.hid (fun W K' (s : SitM W w B A N w.heap.size g L K' sa n c Ls) cut tz => mapAgree_any H (fun b => B ≤ b ∧ b ≠ A ∧ b < N) Ls ⟨eb, ek, V, em, ez, eo⟩ eb V cut fz fo tz 1 sa n c W s.l (fun _ => by omega))
              have HNX := Lib.hid (fun m (h1 : 1 ≤ m) (h2 : m ≤ 4611686018427387904) W K' (s : SitM W w B A N w.heap.size g L K' sa n c Ls) => next_any W w.heap.size g L K' m s.d hzl h1 h2)
              unfold NextPost at HNX
              have SD := sQ.dr
              refine Plan.start (fun W => Six W w3.heap.size eb ek V em ez eo ∧ (W.cell? ⟨w3.heap.size + 1, 0, none⟩ = some (.int .i64 fz) ∧ W.cell? ⟨w3.heap.size + 1, 1, none⟩ = some (.int .i64 fo)) ∧ W.cell? ⟨A, 0, none⟩ = some (.slice sa n c)) [(0, true), (1, true), (2, true), (3, true), (4, true), (5, true), (6, true), (8, true), (9, true), (7, false), (10, false), (11, true), (12, false), (13, true)] (by kernel_rfl) (by kernel_rfl) (by kernel_rfl) (by kernel_rfl) ⟨entry_row eQ, place_row pQ, map_row mQ⟩ ?_
              simp only [List.map_cons, List.map_nil, List.getElem?_toArray, List.getElem?_cons_zero, List.getElem?_cons_succ]
              repeat (first | (refine Plan.take ?_ (by rfl) ?_ ?_; rotate_left; (· rintro w9 ⟨⟨u0, u1, u2, u3, u4, u5⟩, ⟨v0, v1⟩, v2⟩; go_simp; (try rw [if_neg (by omega)]); all_goals (with_reducible rfl)); simp only [Act.put, List.setIfInBounds_toArray, List.set_cons_zero, List.set_cons_succ]) | (refine Plan.pass (by rfl) ?_; simp only [Act.put, List.setIfInBounds_toArray, List.set_cons_zero, List.set_cons_succ]))
              refine Plan.call (by rfl) 19 _ ?_ (HNX.out 30 (by decide) (by decide) _ K SD) ?_
              · go_simp
              rintro r9 y1 ⟨rfl, hd8, hg8, hs8⟩
              have S1 := SD.next hgB hd8 hg8
              have e1 := ent_row_grown hg8 (show WQ.drew.heap[w3.heap.size]? = _ from eQ) (fun h => hw3 h.symm)
              have p1 := ent_row_grown hg8 (show WQ.drew.heap[w3.heap.size + 1]? = _ from pQ) (fun h => hw4 h.symm)
              have m1 := ent_row_grown hg8 (show WQ.drew.heap[A]? = _ from mQ) (fun h => hwA h.symm)
              clear hd8 hg8
              refine ⟨_, rfl, ⟨entry_row e1, place_row p1, map_row m1⟩, ?_⟩
              simp only [Act.put, List.setIfInBounds_toArray, List.set_cons_zero, List.set_cons_succ]
              repeat (first | (refine Plan.take ?_ (by rfl) ?_ ?_; rotate_left; (· rintro w9 ⟨⟨u0, u1, u2, u3, u4, u5⟩, ⟨v0, v1⟩, v2⟩; go_simp; (try rw [if_neg (by omega)]); all_goals (with_reducible rfl)); simp only [Act.put, List.setIfInBounds_toArray, List.set_cons_zero, List.set_cons_succ]) | (refine Plan.pass (by rfl) ?_; simp only [Act.put, List.setIfInBounds_toArray, List.set_cons_zero, List.set_cons_succ]))
              refine Plan.call (by rfl) 19 _ ?_ (HNX.out 5 (by decide) (by decide) _ _ S1) ?_
              · go_simp
              rintro r9 y2 ⟨rfl, hd9, hg9, hs9⟩
              have S2 := S1.next hgB hd9 hg9
              have e2 := ent_row_grown hg9 e1 (fun h => hw3 h.symm)
              have p2 := ent_row_grown hg9 p1 (fun h => hw4 h.symm)
              have m2 := ent_row_grown hg9 m1 (fun h => hwA h.symm)
              clear hd9 hg9 e1 p1 m1
              refine ⟨_, rfl, ⟨entry_row e2, place_row p2, map_row m2⟩, ?_⟩
              simp only [Act.put, List.setIfInBounds_toArray, List.set_cons_zero, List.set_cons_succ]
              repeat (first | (refine Plan.take ?_ (by rfl) ?_ ?_; rotate_left; (· rintro w9 ⟨⟨u0, u1, u2, u3, u4, u5⟩, ⟨v0, v1⟩, v2⟩; go_simp; (try rw [if_neg (by omega)]); all_goals (with_reducible rfl)); simp only [Act.put, List.setIfInBounds_toArray, List.set_cons_zero, List.set_cons_succ]) | (refine Plan.pass (by rfl) ?_; simp only [Act.put, List.setIfInBounds_toArray, List.set_cons_zero, List.set_cons_succ]))
              refine Plan.call (by rfl) 8 _ ?_ (HA.out _ _ S2 (nxt L K 30) (nxt L (stp L K) 5)) ?_
              · go_simp
              rintro r9 y3 ⟨rfl, h10⟩
              have S9 := S2.on h10
              have e3 := e_on h10 e2 (e_lt e2)
              have p3 := e_on h10 p2 (e_lt p2)
              have m3 := e_on h10 m2 (e_lt m2)
              clear h10 e2 p2 m2
              refine ⟨_, rfl, ⟨entry_row e3, place_row p3, map_row m3⟩, ?_⟩
              simp only [Act.put, List.setIfInBounds_toArray, List.set_cons_zero, List.set_cons_succ]
              repeat (first | (refine Plan.take ?_ (by rfl) ?_ ?_; rotate_left; (· rintro w9 ⟨⟨u0, u1, u2, u3, u4, u5⟩, ⟨v0, v1⟩, v2⟩; go_simp; (try rw [if_neg (by omega)]); all_goals (with_reducible rfl)); simp only [Act.put, List.setIfInBounds_toArray, List.set_cons_zero, List.set_cons_succ]) | (refine Plan.pass (by rfl) ?_; simp only [Act.put, List.setIfInBounds_toArray, List.set_cons_zero, List.set_cons_succ]))
              refine Plan.ends ?_
              clear S1 S2 SD sQ eQ pQ mQ HA
              generalize nxt L K 30 = N14 at *
              generalize nxt L (stp L K) 5 = N5 at *
              obtain ⟨c0, c1, c2, c3, c4, c5⟩ := entry_row e3
              have k0 := map_row m3
              have HIN := Lib.hid (refInstM_any (fun b => B ≤ b ∧ b ≠ A ∧ b < N) Ls ⟨eb, ek, V, em, ez, eo⟩ sa n c y3 S9.l (fun _ M hM => Nat.le_trans (flat_each (Nat.le_refl _) M hM) (by omega)))
              unfold InstMPost at HIN
              have hil := installM_len Ls ⟨eb, ek, V, em, ez, eo⟩
              have hin := installM_count Ls ⟨eb, ek, V, em, ez, eo⟩
              go_wp2_with (first
                | (go_at_call 20; ((with_reducible refine HIN.out.mono ?_); rintro r9 y4 ⟨a9, n9, c9, rfl, l9, h9⟩; have S10 := S9.on h9; have m4 := e_on h9 m3 (e_lt m3); have hl9 := l9.length))
                | ((with_reducible refine Plan.store_lit 24 (.tmp 8) _ A ?_ m4 ?_ ?_ ?_ ?_ ?_ ?_); rotate_left; (· rfl); (· rfl); (· exact map_info); (· rfl); (· simp [Value.oneCell']); simp only [Act.put]))
              have hs9 := S9.s
              have hs4 := e_lt m4
              have S12 := S10.box hgA hbA #[.slice a9 n9 c9]
              have m5 := setRow_heap y4 A _ #[.slice a9 n9 c9] _ _ m4
              have l10 := (l9.on (Same.row (r := A) (fun h9 => by rcases h9 with h9 | h9; (· exact h9.2.1 rfl); (· have := e_lt m3; omega)) #[.slice a9 n9 c9])).mono (G := fun b => B ≤ b ∧ b ≠ A) (fun b _ h9 => by rcases h9 with h9 | h9; (· exact ⟨h9.1, h9.2.1⟩); (· have := e_lt m3; exact ⟨by omega, by omega⟩))
              go_roundw
              case rel => exact ⟨j + 1, _, _, a9, n9, c9, by go_num, by omega, m5, l10, by omega, by omega, by omega, S12.d, Nat.le_trans hBN S12.s, S12.b⟩
              case measure => simp [intOf]; omega
        · have hjI : ¬ (j : Int) < 25 := by omega
          clear hd hl hm
          go_wp2_with (first
            | (go_at_call 9; ((with_reducible refine (mapAwake_any H _).mono ?_); rintro r9 w99 ⟨rfl, h99⟩)))
          go_ret
          exact ⟨rfl, hb.trans (h99.mono hb.size)⟩
    · go_enter Try.func4, Try.ntmps4
      go_wp2_with (first
        | (go_at_call 10; ((with_reducible refine HLI.out.mono ?_); rintro e w0 ⟨rfl, rfl⟩))
        | (go_at_call 11; ((with_reducible refine HR.out.mono ?_); rintro e w1 ⟨g, rfl, hd1, hb1⟩))
        | (go_at_call 13; ((with_reducible refine (HMD.out _).mono ?_); rintro e w9 ⟨rfl, rfl⟩))
        | (go_at_call 12; ((with_reducible refine (HN1.out _).mono ?_); rintro r9 w2 ⟨a2, n2, c2, rfl, l2, h2⟩; have b2 := (hb1.trans (h2.mono hb1.size)).alloc (hb1.trans (h2.mono hb1.size)).size (mapRow a2 n2 c2); have l2 := l2.cut.on (Same.alloc w2 (mapRow a2 n2 c2)); have m2 := heap_alloc_new w2 (mapRow a2 n2 c2); have d2 := dice_on (dice_on hd1 h2 (Nat.le_refl _)) ((Below.refl _ _).alloc (Nat.le_refl _) (mapRow a2 n2 c2)) (Nat.le_refl _)))
        | (go_at_call 14; ((with_reducible refine (HN2.out _).mono ?_); rintro r9 w3 ⟨a3, n3, c3, rfl, l3, h3⟩; have b3 := (b2.trans (h3.mono b2.size)).alloc (b2.trans (h3.mono b2.size)).size (mapRow a3 n3 c3); have l2 := (l2.on (Same.below h3)).on (Same.alloc w3 (mapRow a3 n3 c3)); have l3 := l3.cut.on (Same.alloc w3 (mapRow a3 n3 c3)); have m3 := e_al (e_on h3 m2 (e_lt m2)) (mapRow a3 n3 c3); have k3 := heap_alloc_new w3 (mapRow a3 n3 c3); have d3 := dice_on (dice_on d2 h3 (Nat.le_refl _)) ((Below.refl _ _).alloc (Nat.le_refl _) (mapRow a3 n3 c3)) (Nat.le_refl _); have o2 := map_row m3; have o3 := map_row k3))
        | (go_at_call 15; ((with_reducible refine (refSameM_any _ _ NM a2 a3 n2 c2 n3 c3 _ l2 l3).mono ?_); rintro r9 w4 ⟨rfl, h4⟩; have b4 := b3.trans (h4.mono b3.size); have l4 := l3.on (Same.below h4); have m4 := e_on h4 k3 (e_lt k3); have d4 := dice_on d3 h4 (Nat.le_refl _); clear o2 o3 m2 m3 k3)))
      go_loopw [10] (fun x wr => x = .int .i64 0 ∧ Dice wr w.heap.size g L 0 ∧ Below w.heap.size w wr) (fun x _ => (intOf x).toNat)
      case atStart => exact ⟨rfl, d4, b4⟩
      case round =>
        obtain ⟨rfl, hd, hb⟩ := hrel
        have hrs := rest_dice wr w.heap.size g L 0 hd hzl (by omega)
        have bd := hb.drew
        rcases map_rest L.length 0 with hz | hz
        · rw [hz] at hrs
          have HRS := Lib.hid hrs
          clear hrs hd hb hz
          go_wp2_with (first
            | (go_at_call 16; ((with_reducible refine HRS.out.mono ?_); rintro r9 w2 ⟨rfl, rfl⟩))
            | (go_at_call 9; ((with_reducible refine (mapAwake_any H _).mono ?_); rintro r9 w99 ⟨rfl, h99⟩)))
          go_ret
          exact ⟨rfl, bd.trans (h99.mono bd.size)⟩
        · generalize max (0 : Int) ((L.length : Int) - ((0 : Nat) : Int)) = RR at hz hrs
          have HRS := Lib.hid hrs
          clear hrs hd hb
          go_wp2_with (first
            | (go_at_call 16; ((with_reducible refine HRS.out.mono ?_); rintro r9 w2 ⟨rfl, rfl⟩))
            | (go_at_call 9; ((with_reducible refine (mapAwake_any H _).mono ?_); rintro r9 w99 ⟨rfl, h99⟩)))
          go_ret
          exact ⟨rfl, bd.trans (h99.mono bd.size)⟩
  · rw [decide_eq_false hlen] at hli
    have HLI := Lib.hid hli
    clear hli
    go_enter Try.func4, Try.ntmps4
    go_wp2_with (first
      | (go_at_call 10; ((with_reducible refine HLI.out.mono ?_); rintro e w0 ⟨rfl, rfl⟩))
      | (go_at_call 9; ((with_reducible refine (mapAwake_any H _).mono ?_); rintro e w1 ⟨rfl, hb1⟩)))
    go_ret
    exact ⟨rfl, hb1⟩
end Go.Proofs.Ytljobnfilnbefaa.Ents

/- A map that comes in. -/
namespace Go.Proofs.Ytljobnfilnbefaa.Ents
open Go.ChangeShapes Go.WideShapes Go.RowKit EntMath
set_option maxRecDepth 20000 in
theorem map_cells_lists : Try.prog.cellsOf 22 = 1 := by kernel_rfl
set_option maxRecDepth 20000 in
theorem map_cells_map : Try.prog.cellsOf 24 = 1 := by kernel_rfl
section
variable {H : Type} {enc : TypeId × Value → H} {w : World} {base : Nat} {spare : Nat → Bool} {held : Bool}
set_option maxRecDepth 20000 in
/-- the block of a list that has a place is there -/
theorem cells_block {a : Addr} {i k n : Nat} {cs : List Value} (h : w.cells? n (a.add i) (k + 1) = some cs) : a.block < w.heap.size := by
  obtain ⟨_, h1, h2⟩ := World.cells?_some h
  have h4 : cs[0]? = some (cs[0]'(by omega)) := List.getElem?_eq_getElem _
  have := World.block_lt_of_cell? w _ ((h2 0 (by omega)).trans h4)
  rwa [ent_add_block, ent_add_block] at this
set_option maxRecDepth 20000 in
/-- a list of entries among data: one without a place may lie nowhere -/
theorem trod_entries_any (hs : ∀ b, spare b = true) {fuel : Nat} {cs : List Value} {x : DataW H × List MemPlace} (h : DataW.trod enc Try.prog w base spare held fuel 49 cs = some x) : ∃ a len cap L, cs = [.slice a len cap] ∧ EList w (fun b => b < w.heap.size) a len cap L := by
  rcases DataW.trod_slice Try.underlying49 h with ⟨rfl, _⟩ | ⟨a, len, cap, elems, rest, n, _, rfl, _, _, hl, hm, hlen, hel, hsp, _⟩
  · exact ⟨none, 0, 0, [], rfl, .inl ⟨trivial, rfl, rfl, rfl⟩⟩
  by_cases hc : cap = 0
  · subst hc
    obtain rfl : len = 0 := by omega
    exact ⟨some a, 0, 0, [], rfl, .inl ⟨trivial, rfl, rfl, rfl⟩⟩
  · refine trod_entries h fun a' len' cap' e => ?_
    simp at e
    obtain ⟨rfl, rfl, rfl⟩ := e
    by_cases h0 : 0 < len
    · obtain ⟨y, hy⟩ := ent_some hlen h0
      have h1 := (hel 0 h0).trans hy
      rw [ent_cells_entry, Option.bind_eq_some_iff] at h1
      obtain ⟨cs, hcs, _⟩ := h1
      exact cells_block hcs
    · obtain ⟨hr, hre⟩ := hsp (hs _)
      obtain ⟨y, hy⟩ := ent_some hr (i := 0) (by omega)
      have h1 := (hre 0 (by omega)).trans hy
      rw [ent_cells_entry, Option.bind_eq_some_iff] at h1
      obtain ⟨cs, hcs, _⟩ := h1
      exact cells_block hcs
set_option maxRecDepth 20000 in
theorem trod_lists (hs : ∀ b, spare b = true) {fuel : Nat} {cs : List Value} {x : DataW H × List MemPlace} (h : DataW.trod enc Try.prog w base spare held fuel 22 cs = some x) (hb : ∀ a len cap, cs = [.slice (some a) len cap] → a.block < w.heap.size) : ∃ a n c Ls, cs = [.slice a n c] ∧ MList w (fun b => b < w.heap.size) a n c Ls := by
  rcases DataW.trod_slice Try.underlying22 h with ⟨rfl, _⟩ | ⟨a, len, cap, elems, rest, n, _, rfl, _, _, hl, hm, hlen, hel, _, _⟩
  · exact ⟨none, 0, 0, [], rfl, .inl ⟨rfl, rfl, rfl, rfl⟩⟩
  have each : ∀ i, i < len → ∃ (L : List Ent) (b : Option Addr) (m k : Nat), w.cell? (a.add i) = some (.slice b m k) ∧ EList w (fun b => b < w.heap.size) b m k L := by
    intro i hi
    obtain ⟨y, hy⟩ := ent_some hlen hi
    have h1 := (hel i hi).trans hy
    rw [ent_cells_list, Option.bind_eq_some_iff] at h1
    obtain ⟨cs, hcs, ht⟩ := h1
    obtain ⟨b, m, k, L, rfl, hL⟩ := trod_entries_any hs ht
    obtain ⟨_, _, h2⟩ := World.cells?_some hcs
    have h3 := h2 0 (by omega)
    rw [Addr.add_add, Nat.mul_one, Nat.add_zero] at h3
    exact ⟨L, b, m, k, h3, hL⟩
  have build : ∀ n, n ≤ len → ∃ Ls : List (List Ent), Ls.length = n ∧ ∀ (i : Nat) L, Ls[i]? = some L → ∃ (b : Option Addr) (m k : Nat), w.cell? (a.add i) = some (.slice b m k) ∧ EList w (fun b => b < w.heap.size) b m k L := by
    intro n
    induction n with
    | zero => intro _; exact ⟨[], rfl, fun i L hL => by cases hL⟩
    | succ n ih =>
      intro hn
      obtain ⟨Ls, hLs, hall⟩ := ih (by omega)
      obtain ⟨L, hL⟩ := each n (by omega)
      refine ⟨Ls ++ [L], by simp [hLs], fun i M hM => ?_⟩
      by_cases hi : i < Ls.length
      · rw [List.getElem?_append_left hi] at hM
        exact hall i M hM
      · have hi2 := (List.getElem?_eq_some_iff.1 hM).1
        simp at hi2
        obtain rfl : i = Ls.length := by omega
        obtain rfl : L = M := by simpa using hM
        rw [hLs]
        exact hL
  obtain ⟨Ls, hLs, hall⟩ := build len (Nat.le_refl _)
  exact ⟨some a, len, cap, Ls, rfl, .inr ⟨a, rfl, hl, hm, hLs, hb _ _ _ rfl, hb _ _ _ rfl, hall⟩⟩
set_option maxRecDepth 20000 in
theorem open_map {r : Reach} {b0 : Nat} {v : Value} {d : DataW H} {p : List MemPlace} (hs : ∀ b, spare b = true)
    (hok : Value.okWide Try.prog w r b0 24 v) (h : DataW.Trod enc Try.prog w base spare held 24 v d p) :
    ∃ (a : Option Addr) (n c : Nat) (Ls : List (List Ent)), v = mapV a n c ∧ MList w (fun b => b < w.heap.size) a n c Ls := by
  have hok2 := hok
  obtain ⟨cs, rfl, hsz⟩ := okWide_struct Try.underlying24 hok
  obtain ⟨l⟩ := cs
  match l, hsz.trans map_cells_map with
  | [x0], _ =>
    have hblk : ∀ a len cap, x0 = .slice (some a) len cap → a.block < w.heap.size := by
      rintro a len cap rfl
      simp only [Value.okWide, Try.underlying24] at hok2
      obtain ⟨cs, e, _, ts, _, _, hall⟩ := hok2
      cases e
      obtain ⟨u, _, hc⟩ := hall 0 _ rfl
      exact ent_slice_in hc
    obtain ⟨fuel, hf⟩ := h
    obtain ⟨xs, n, _, _, _, hlen, hg⟩ := DataW.trod_struct Try.underlying24 hf
    have hl : xs.length = 1 := hlen
    obtain ⟨y0, e0⟩ := ent_some hl (i := 0) (by decide)
    have g0 : DataW.trod enc Try.prog w base spare held n 22 (([x0].drop 0).take (Try.prog.cellsOf 22)) = some y0 := (hg 0 _ rfl).trans e0
    rw [map_cells_lists] at g0
    obtain ⟨a, len, cap, Ls, h0, hm⟩ := trod_lists hs g0 (fun a len cap e => hblk a len cap (by simpa using e))
    simp at h0
    exact ⟨a, len, cap, Ls, by rw [h0], hm⟩
end
end Go.Proofs.Ytljobnfilnbefaa.Ents

/- The walks of the library's Grow from nil and of its Concat, at entries. -/
namespace Go.Proofs.Ytljobnfilnbefaa.Ents
open Go.RowKit Plan EntMath
abbrev zV : Value := .agg #[.int .i64 0, .int .i64 0, .int .i64 0, .int .i64 0, .int .i64 0, .int .i64 0]
set_option maxRecDepth 20000 in
set_option maxHeartbeats 1000000 in
theorem grow_any (n : Nat) (w : World) (h0 : 0 < n) (hm : n ≤ 1000000) :
    Calls Try.prog 62 #[.slice none 0 0, .int .i64 n] w fun r w' => ∃ g c, r = .returned (.slice (some ⟨g, 0, none⟩) 0 c) ∧ w'.ownsRow w.heap.size 28 6 (.slice (some ⟨g, 0, none⟩) 0 c) 0 (ents []) ∧ Below w.heap.size w w' := by
  obtain ⟨i1, hi1, hy0, hy1, hy2⟩ := info_parts e_info
  have hrz : ∀ ty, (Builtin.append_ #[49, 3] ty #[.slice none 0 0, .int .i64 (n : Int)]).run Try.prog w = .ok (.slice (some ⟨w.heap.size, 0, none⟩) (0 + n) (grownCap w (0 + n) 0 28)) (w.drew.alloc (.cells (#[] ++ Builtin.zeroCells zV.cells n ++ Builtin.zeroCells zV.cells (grownCap w (0 + n) 0 28 - (0 + n))) 28)) := fun ty =>
    Lib.run_append_grow_zeros w 49 3 ty 28 i1 zV .i64 .i64 Try.underlying49 Try.underlying3 hi1 hy0 none 0 0 [] (run_firstCells_none _ _ _ _ _) n h0 (by omega) (by omega) (by omega) (by rw [hy2]; omega) (growslice_fits (by omega) (by rw [hy2]; omega))
  have hge := grownCap_ge w (0 + n) 0 28
  have hle := grownCap_le_maxLen w (0 + n) 0 28 (by unfold maxLen; omega)
  generalize grownCap w (0 + n) 0 28 = C at *
  have hsz : (#[] ++ Builtin.zeroCells zV.cells n ++ Builtin.zeroCells zV.cells (C - (0 + n))).size = C * 6 := by
    have hz : zV.cells.size = 6 := rfl
    rw [Array.size_append, Array.size_append, size_zeroCells, size_zeroCells, hz]
    simp
    omega
  generalize (#[] ++ Builtin.zeroCells zV.cells n ++ Builtin.zeroCells zV.cells (C - (0 + n))) = Z at *
  have hb : Below w.heap.size w (w.drew.alloc (.cells Z 28)) := (Below.refl w.heap.size w).drew.alloc (Nat.le_refl _) _
  have hown : (w.drew.alloc (.cells Z 28)).ownsRow w.heap.size 28 6 (.slice (some ⟨w.heap.size, 0, none⟩) 0 C) 0 (ents []) :=
    ⟨rfl, .inr ⟨w.heap.size, C, Z, rfl, Nat.le_refl _, heap_alloc_new w.drew (.cells Z 28), Nat.zero_le _, hle, hsz, by simp [ents]⟩⟩
  rw [Nat.zero_add] at hrz hge
  generalize hW : w.drew.alloc (.cells Z 28) = W at *
  unfold maxLen at hle
  have hnI : (0 : Int) < (n : Int) := by omega
  have HO := Lib.hid hown
  clear hsz hown hW
  go_enter Try.func62, Try.ntmps62
  go_wp2_with (at_builtin; refine Lib.wpList_append_run _ rfl _ _ _ _ rfl _ _ rfl rfl _ _ (hrz _) ?_)
  go_ret
  exact ⟨_, _, rfl, HO.out, hb⟩
/-- lists of entries, one beside the other -/
structure ListsAt (w : World) (F : Nat → Prop) (x : Addr) (Ls : List (List Ent)) : Prop where
  at' : ∀ i L, Ls[i]? = some L → ∃ a n c, w.cell? (x.add i) = some (.slice a n c) ∧ EList w F a n c L
set_option maxRecDepth 20000 in
theorem ListsAt.low {w : World} {F : Nat → Prop} {x : Addr} {Ls : List (List Ent)} (h : ListsAt w F x Ls) : ListsAt w (fun b => b < w.heap.size) x Ls :=
  ⟨fun i L hi => by obtain ⟨a, n, c, h1, h2⟩ := h.at' i L hi; exact ⟨a, n, c, h1, h2.low⟩⟩
set_option maxRecDepth 20000 in
theorem ListsAt.keep {w w' : World} {x : Addr} {Ls : List (List Ent)} (h : ListsAt w (fun b => b < w.heap.size) x Ls) (hb : Below w.heap.size w w') : ListsAt w' (fun b => b < w.heap.size) x Ls :=
  ⟨fun i L hi => by
    obtain ⟨a, n, c, h1, h2⟩ := h.at' i L hi
    exact ⟨a, n, c, (hb.cell (World.block_lt_of_cell? w _ h1)).trans h1, h2.on (Same.low hb)⟩⟩
set_option maxRecDepth 20000 in
theorem flat_next {Ls : List (List Ent)} {i : Nat} {L : List Ent} (h : Ls[i]? = some L) : (Ls.take (i + 1)).flatten = (Ls.take i).flatten ++ L := by
  rw [List.take_add_one, h, List.flatten_append]
  simp
set_option maxRecDepth 20000 in
theorem flat_le (Ls : List (List Ent)) (i : Nat) : ((Ls.take i).flatten).length ≤ Ls.flatten.length := by
  have := congrArg (fun l => (List.flatten l).length) (List.take_append_drop i Ls)
  simp only [List.flatten_append, List.length_append] at this
  omega
set_option maxHeartbeats 2000000 in
set_option maxRecDepth 20000 in
theorem concat_any (F : Nat → Prop) (Ls : List (List Ent)) (x : Addr) (m cap : Nat) (w : World) (hl : ListsAt w F x Ls) (hlen : Ls.length = m) (hmm : m ≤ 1000) (h0 : 0 < Ls.flatten.length) (hm : Ls.flatten.length ≤ 900000) :
    Calls Try.prog 45 #[.slice (some x) m cap] w (OwnPost w w.heap.size Ls.flatten) := by
  have HL := Lib.hid (fun W (h : Below w.heap.size w W) i (hi : i < m) => (show ∃ L a n c, Ls[i]? = some L ∧ W.cell? (x.add i) = some (.slice a n c) ∧ EList W (fun b => b < w.heap.size) a n c L ∧ (Ls.take (i + 1)).flatten = (Ls.take i).flatten ++ L ∧ ((Ls.take i).flatten).length + n ≤ 900000 from by
    have hi2 : Ls[i]? = some (Ls[i]'(by omega)) := List.getElem?_eq_getElem _
    obtain ⟨a, n, c, h1, h2⟩ := (ListsAt.keep hl.low h).at' i _ hi2
    have h3 := flat_next hi2
    have h4 := flat_le Ls (i + 1)
    rw [h3, List.length_append, h2.length] at h4
    exact ⟨_, a, n, c, hi2, h1, h2, h3, by omega⟩))
  have HT0 : RowKit.Hid ((Ls.take 0).flatten = []) := Lib.hid (by simp)
  have HTm : RowKit.Hid ((Ls.take m).flatten = Ls.flatten) := Lib.hid (by rw [List.take_of_length_le (by omega)])
  unfold OwnPost
  generalize Ls.flatten = R at *
  clear hl hlen
  go_enter Try.func45, Try.ntmps45
  go_wp2_with fail
  go_loopw [3, 11] (fun s c wr => ∃ i : Nat, c = .int .i64 (i : Int) ∧ i ≤ m ∧ s = .int .i64 (((Ls.take i).flatten.length : Nat) : Int) ∧ wr = w) (fun _ c _ => m - (intOf c).toNat)
  case atStart => exact ⟨0, rfl, by omega, by rw [HT0.out]; rfl, rfl⟩
  case round =>
    obtain ⟨i, rfl, hi, rfl, hww⟩ := hrel
    have h9 : w = wr := hww.symm
    subst h9
    clear hww
    by_cases hlt : i < m
    · obtain ⟨L, a, n, c, he, hc, hli, hfn, hbd⟩ := HL.out w (Below.refl _ _) i hlt
      have hFN := Lib.hid hfn
      have hnl := hli.length
      have hiI : (i : Int) < (m : Int) := by omega
      clear he hli hfn
      generalize hS : (Ls.take i).flatten.length = S at *
      have hSS := Lib.hid hS
      clear hS
      go_wp2_with fail
      go_roundw
      case rel => exact ⟨i + 1, by go_num, by omega, by rw [hFN.out, List.length_append, hSS.out, hnl]; go_num, by trivial⟩
      case measure => simp [intOf]; omega
    · obtain rfl : m = i := by omega
      rw [HTm.out]
      have HG := Lib.hid (grow_any R.length w h0 (by omega))
      generalize hRL : R.length = RL at *
      have hRLh := Lib.hid hRL
      clear hRL
      go_wp2_with (first
        | (go_at_call 62; ((with_reducible refine HG.out.mono ?_); rintro e9 w1 ⟨g1, c1, rfl, hown1, h1⟩)))
      have HO1 := Lib.hid hown1
      clear hown1
      go_loopw [6, 27] (fun v c wz => ∃ i : Nat, c = .int .i64 (i : Int) ∧ i ≤ m ∧ wz.ownsRow w.heap.size 28 6 v (Ls.take i).flatten.length (ents (Ls.take i).flatten) ∧ Below w.heap.size w wz) (fun _ c _ => m - (intOf c).toNat)
      case atStart => exact ⟨0, rfl, by omega, by rw [HT0.out]; exact HO1.out, h1⟩
      case round =>
        clear HO1 HG
        obtain ⟨i, rfl, hi, hown, hb⟩ := hrel
        by_cases hlt : i < m
        · obtain ⟨L, a, n, c, he, hc, hli, hfn, hbd⟩ := HL.out wr hb i hlt
          have hFN := Lib.hid hfn
          have HLI := Lib.hid hli
          have hiI : (i : Int) < (m : Int) := by omega
          clear he hfn
          have hnl := hli.length
          clear hli
          go_wp2_with (first
            | (at_builtin; refine append_ents (F := fun b => b < w.heap.size) rfl (.tmp 31) (.tmp 32) rfl w.heap.size _ _ _ rfl hown a n c L rfl HLI.out (by omega) hb.size ?_; intro v7 w7 hown7 hgrow7; have b7 := hb.grown hgrow7 hb.size (fun z9 h9 => (hown.lt z9 h9).1)))
          go_roundw
          case rel => exact ⟨i + 1, by go_num, by omega, by rw [hFN.out, List.length_append, hnl]; exact hown7, b7⟩
          case measure => simp [intOf]; omega
        · obtain rfl : m = i := by omega
          rw [HTm.out] at hown
          obtain ⟨g7, c7, rfl, hg7, hs7⟩ := own_some hown (by rw [hRLh.out]; omega)
          have HO := Lib.hid hown
          clear hown
          go_wp2_with fail
          go_ret
          exact ⟨g7, c7, rfl, hg7, HO.out, hb⟩
end Go.Proofs.Ytljobnfilnbefaa.Ents

/- How long a map that comes in may be, by the bytes that its lists take. -/
namespace Go.Proofs.Ytljobnfilnbefaa.Ents
open Go.ChangeShapes Go.WideShapes Go.RowKit EntMath
theorem bytes_entry : Try.prog.bytesOf 28 = 48 := by kernel_rfl
theorem bytes_list : Try.prog.bytesOf 49 = 24 := by kernel_rfl
section
variable {H : Type} {enc : TypeId × Value → H} {w : World} {base : Nat} {spare : Nat → Bool} {held : Bool}
theorem weights_all {P : Program} {e : TypeId} : ∀ {l : List (DataW H)} {d : DataW H}, d ∈ l → ∀ x ∈ d.weights P e, x ∈ DataW.weightsAll P e l
  | d0 :: l, d, hd, x, hx => by
    simp only [DataW.weightsAll, List.mem_append]
    rcases List.mem_cons.1 hd with rfl | hd
    · exact .inl hx
    · exact .inr (weights_all hd x hx)
set_option maxRecDepth 20000 in
theorem list_len {fuel : Nat} {b : Option Addr} {m k : Nat} {x : DataW H × List MemPlace} (h : DataW.trod enc Try.prog w base spare held fuel 49 [.slice b m k] = some x) (hr : ∀ y ∈ x.1.weights Try.prog 49, y ≤ reachBytes) : m ≤ reachBytes := by
  rcases DataW.trod_slice Try.underlying49 h with ⟨hc, _⟩ | ⟨a', len', cap', elems, rest, n', _, hc, hy, _, _, _, hel, _, _, _⟩
  · simp at hc
    rw [hc.2.1]
    exact Nat.zero_le _
  · simp at hc
    obtain ⟨-, rfl, rfl⟩ := hc
    have := hr ((elems.length + rest.length) * 48) (by rw [hy]; simp [DataW.weights, Try.underlying49, bytes_entry])
    omega
set_option maxRecDepth 20000 in
theorem map_len {a : Option Addr} {n c : Nat} {F : Nat → Prop} {Ls : List (List Ent)} {d : DataW H} {p : List MemPlace} (h : DataW.Trod enc Try.prog w base spare held 24 (mapV a n c) d p) (hm : MList w F a n c Ls)
    (hr : ∀ y ∈ d.weights Try.prog 24, y ≤ reachBytes) : n ≤ reachBytes ∧ ∀ L ∈ Ls, L.length ≤ reachBytes := by
  have hlen := hm.length
  obtain ⟨fuel, hf⟩ := h
  obtain ⟨xs, f, _, hx, _, hl0, hg⟩ := DataW.trod_struct Try.underlying24 hf
  have hd : d = .agg (xs.map (·.1)) := congrArg Prod.fst hx
  have hl : xs.length = 1 := hl0
  obtain ⟨y0, e0⟩ := ent_some hl (i := 0) (by decide)
  have g0 : DataW.trod enc Try.prog w base spare held f 22 (([Value.slice a n c].drop 0).take (Try.prog.cellsOf 22)) = some y0 := (hg 0 _ rfl).trans e0
  rw [map_cells_lists] at g0
  have hr0 : ∀ y ∈ y0.1.weights Try.prog 22, y ≤ reachBytes := fun y hy => by
    refine hr y ?_
    rw [hd]
    have hm := DataW.weights_mem_each (P := Try.prog) (ts := [22]) (ds := xs.map (·.1)) (j := 0) (t := 22) (d := y0.1) rfl (by rw [List.getElem?_map, e0]; rfl) y hy
    simp only [DataW.weights, Try.underlying24]
    exact hm
  rcases DataW.trod_slice Try.underlying22 g0 with ⟨hc, _⟩ | ⟨a', len', cap', elems, rest, n', _, hc, hy, _, _, _, hel, hcell, _, _⟩
  · simp at hc
    obtain ⟨-, rfl, -⟩ := hc
    refine ⟨Nat.zero_le _, fun L hL => ?_⟩
    rw [List.length_eq_zero_iff.1 hlen] at hL
    cases hL
  · simp at hc
    obtain ⟨rfl, rfl, rfl⟩ := hc
    rw [hy] at hr0
    have h1 := hr0 ((elems.length + rest.length) * 24) (by simp [DataW.weights, Try.underlying22, bytes_list])
    refine ⟨by omega, fun L hL => ?_⟩
    obtain ⟨i, hi⟩ := List.mem_iff_getElem?.1 hL
    have hin : i < n := by have := (List.getElem?_eq_some_iff.1 hi).1; omega
    obtain ⟨x, L', b, m, k, hx2, hL', hc2, hle⟩ := hm.at' i hin
    obtain rfl := Option.some.inj hx2
    rw [hi] at hL'
    obtain rfl := Option.some.inj hL'
    rw [hle.length]
    obtain ⟨y, hyi⟩ := ent_some hel hin
    have h2 := (hcell i hin).trans hyi
    rw [ent_cells_list, Option.bind_eq_some_iff] at h2
    obtain ⟨cs, hcs, ht⟩ := h2
    obtain ⟨_, hl1, h3⟩ := World.cells?_some hcs
    have h4 := h3 0 (by omega)
    rw [Addr.add_add, Nat.mul_one, Nat.add_zero, hc2] at h4
    have hcs1 : cs = [.slice b m k] := by
      match cs, hl1 with
      | [z], _ => simp at h4; rw [← h4]
    rw [hcs1] at ht
    refine list_len ht fun z hz => ?_
    refine hr0 z ?_
    simp only [DataW.weights, Try.underlying22, List.mem_cons, List.mem_append]
    exact .inr (.inl (weights_all (List.mem_map.2 ⟨y, List.mem_of_getElem? hyi, rfl⟩) z hz))
theorem flat_sum {k : Nat} : ∀ {Ls : List (List Ent)}, (∀ L ∈ Ls, L.length ≤ k) → Ls.flatten.length ≤ Ls.length * k
  | [], _ => by simp
  | L :: Ls, h => by
    have h1 := h L (List.mem_cons_self ..)
    have h2 := flat_sum (Ls := Ls) fun M hM => h M (List.mem_cons_of_mem _ hM)
    rw [List.flatten_cons, List.length_append, List.length_cons, Nat.add_mul, Nat.one_mul]
    omega
theorem map_reach {n : Nat} {Ls : List (List Ent)} (h : n ≤ reachBytes ∧ ∀ L ∈ Ls, L.length ≤ reachBytes) (h8 : Ls.length ≤ 8) : n + Ls.flatten.length ≤ 4611686018427387904 := by
  have h1 := flat_sum h.2
  have h2 : Ls.length * reachBytes ≤ 8 * reachBytes := Nat.mul_le_mul_right _ h8
  have h3 := h.1
  have h4 : reachBytes = 140737488351232 := rfl
  omega
end
end Go.Proofs.Ytljobnfilnbefaa.Ents

/- The walk of the program's Install. -/
namespace Go.Proofs.Ytljobnfilnbefaa.Ents
open Go.RowKit Plan EntMath
theorem lists3 {w : World} {F0 F1 F2 : Nat → Prop} {g : Nat} {a0 a1 a2 : Option Addr} {n0 c0 n1 c1 n2 c2 : Nat} {L0 L1 L2 : List Ent} {t : TypeId} {fr : Nat × Nat} (hg : w.heap[g]? = some (.cells #[.slice a0 n0 c0, .slice a1 n1 c1, .slice a2 n2 c2] t fr)) (h0 : EList w F0 a0 n0 c0 L0) (h1 : EList w F1 a1 n1 c1 L1) (h2 : EList w F2 a2 n2 c2 L2) : ListsAt w (fun _ => True) ⟨g, 0, none⟩ [L0, L1, L2] := by
  refine ⟨fun i L hi => ?_⟩
  rw [Addr.add_lit, Nat.zero_add]
  have hlt := (List.getElem?_eq_some_iff.1 hi).1
  simp only [List.length_cons, List.length_nil] at hlt
  match i, hlt, hi with
  | 0, _, hi => obtain rfl := Option.some.inj hi; exact ⟨_, _, _, cell_of_row _ _ 0 _ _ _ hg, h0.mono fun _ _ _ => trivial⟩
  | 1, _, hi => obtain rfl := Option.some.inj hi; exact ⟨_, _, _, cell_of_row _ _ 1 _ _ _ hg, h1.mono fun _ _ _ => trivial⟩
  | 2, _, hi => obtain rfl := Option.some.inj hi; exact ⟨_, _, _, cell_of_row _ _ 2 _ _ _ hg, h2.mono fun _ _ _ => trivial⟩
theorem flat3 (L : List Ent) (k : Nat) (e : Ent) : [L.take k, [e], L.drop k].flatten = (L.take k ++ [e]) ++ L.drop k := by simp
theorem flat3_len (L : List Ent) (k : Nat) (e : Ent) : ([L.take k, [e], L.drop k].flatten).length = L.length + 1 := by
  rw [flat3]
  simp
  omega
theorem EList.to {w : World} {F : Nat → Prop} {a : Option Addr} {n n' c : Nat} {L : List Ent} (h : EList w F a n c L) (hn : n' = n) : EList w F a n' c L := hn ▸ h
theorem not_new {F : Nat → Prop} {H N r : Nat} (h1 : r < N) (h9 : Plus (fun b => F b ∧ b < H) N r) (hH : H ≤ r) : False := by
  rcases h9 with h | h
  · exact absurd h.2 (by omega)
  · omega
set_option maxHeartbeats 4000000 in
set_option maxRecDepth 20000 in
theorem install_any (F : Nat → Prop) (L : List Ent) (e : Ent) (a : Option Addr) (len cap : Nat) (w : World) (hF : ∀ b, F b → b < w.heap.size) (hl : EList w F a len cap L) (hm : len ≤ 800000) :
    Calls Try.prog 44 #[.slice a len cap, entV e] w (InstPost w F (installL L e) (installE L e) (newer L e)) := by
  have hlen := hl.length
  have hA := ((Below.refl w.heap.size w).alloc (Nat.le_refl _) (entRow e.block e.kind e.version e.move e.zone e.offset)).alloc (by simp) (entRow 0 0 0 0 0 0)
  have hr0 := heap_second w (entRow e.block e.kind e.version e.move e.zone e.offset) (entRow 0 0 0 0 0 0)
  have hx0 := heap_first w (entRow e.block e.kind e.version e.move e.zone e.offset) (entRow 0 0 0 0 0 0)
  have hs0 : ((w.alloc (entRow e.block e.kind e.version e.move e.zone e.offset)).alloc (entRow 0 0 0 0 0 0)).heap.size = w.heap.size + 2 := by simp
  have hlow := fun W (h : Below w.heap.size w W) => hl.low.on (Same.low h)
  have HV := Lib.hid (fun W h => valid_any _ L a len cap W (hlow W h))
  have HE := Lib.hid (fun W => possible_any e W)
  have hple := place_le L e.block
  rw [hlen] at hple
  have HLOW := Lib.hid hlow
  have HL := Lib.hid hl
  have HF := Lib.hid hF
  clear hF
  have hend := fun W (h : Below w.heap.size w W) (cs : Array Value) => (show EList (W.setRow (w.heap.size + 1) cs) (Plus F w.heap.size) a len cap L from
    ((hl.cut.on (Same.below (w' := W) ⟨h.os, h.tape, h.output, h.size, h.block⟩)).on (Same.row (r := w.heap.size + 1) (fun h9 => by have := h9.2; omega) cs)).mono (fun b _ h => .inl h.1))
  have HEND := Lib.hid hend
  clear hend hl
  cases hva : validB L
  · obtain ⟨r1, r2, r3⟩ := inst_a (e := e) hva
    rw [r1, r2, r3]
    rw [hva] at HV
    clear r1 r2 r3 hva hlow
    obtain ⟨eb, ek, ev, em, ez, eo⟩ := e
    try simp only at HV HE hA hr0 hx0 hs0
    go_enter Try.func44, Try.ntmps44
    generalize hw0 : (w.alloc (entRow eb ek ev em ez eo)).alloc (entRow 0 0 0 0 0 0) = w0 at *
    obtain ⟨c0, c1, c2, c3, c4, c5⟩ := entry_row hx0
    go_wp2_with (first
      | (go_at_call 56; ((with_reducible refine (HV.out _ hA).mono ?_); rintro e9 w1 ⟨rfl, hb1⟩; have hr1 := e_on hb1 hr0 (e_lt hr0); have hx1 := e_on hb1 hx0 (e_lt hx0); have b1 := hA.trans (hb1.mono hA.size); clear c0 c1 c2 c3 c4 c5; obtain ⟨c0, c1, c2, c3, c4, c5⟩ := entry_row hx1))
      | ((with_reducible refine Plan.store_lit 28 (.tmp 5) _ (w.heap.size + 1) ?_ hr1 ?_ ?_ ?_ ?_ ?_ ?_); rotate_left; (· rfl); (· rfl); (· exact entry_info); (· rfl); (· simp [Value.oneCell']); simp only [Act.put]))
    exact bodyPost_ret (results_tct (p := 4) (q := 5) (r := 6) rfl _ _ _ _ _ _ _ rfl (setRow_heap _ _ _ _ _ _ hr1) Try.underlying28 rfl entry_info) rfl ⟨_, _, _, rfl, EList.nil _ _, below_setRow b1 (show w.heap.size ≤ w.heap.size + 1 by omega) _⟩
  · rw [hva] at HV
    have hasc := (valid_iff.1 hva).2
    cases hok : okE e
    · obtain ⟨r1, r2, r3⟩ := inst_b hva hok
      rw [r1, r2, r3]
      rw [hok] at HE
      clear r1 r2 r3 hva hok hlow hasc
      obtain ⟨eb, ek, ev, em, ez, eo⟩ := e
      try simp only at HV HE hA hr0 hx0 hs0
      go_enter Try.func44, Try.ntmps44
      generalize hw0 : (w.alloc (entRow eb ek ev em ez eo)).alloc (entRow 0 0 0 0 0 0) = w0 at *
      obtain ⟨c0, c1, c2, c3, c4, c5⟩ := entry_row hx0
      go_wp2_with (first
        | (go_at_call 56; ((with_reducible refine (HV.out _ hA).mono ?_); rintro e9 w1 ⟨rfl, hb1⟩; have hr1 := e_on hb1 hr0 (e_lt hr0); have hx1 := e_on hb1 hx0 (e_lt hx0); have b1 := hA.trans (hb1.mono hA.size); clear c0 c1 c2 c3 c4 c5; obtain ⟨c0, c1, c2, c3, c4, c5⟩ := entry_row hx1))
        | (go_at_call 60; ((with_reducible refine (HE.out _).mono ?_); rintro e9 w2 ⟨rfl, hb2⟩; have hr2 := e_on hb2 hr1 (e_lt hr1); have hx2 := e_on hb2 hx1 (e_lt hx1); have b2 := b1.trans (hb2.mono b1.size); clear c0 c1 c2 c3 c4 c5; obtain ⟨c0, c1, c2, c3, c4, c5⟩ := entry_row hx2))
        | ((with_reducible refine Plan.store_lit 28 (.tmp 5) _ (w.heap.size + 1) ?_ hr2 ?_ ?_ ?_ ?_ ?_ ?_); rotate_left; (· rfl); (· rfl); (· exact entry_info); (· rfl); (· simp [Value.oneCell']); simp only [Act.put]))
      exact bodyPost_ret (results_tct (p := 4) (q := 5) (r := 6) rfl _ _ _ _ _ _ _ rfl (setRow_heap _ _ _ _ _ _ hr2) Try.underlying28 rfl entry_info) rfl ⟨_, _, _, rfl, HEND.out _ b2 _, below_setRow b2 (show w.heap.size ≤ w.heap.size + 1 by omega) _⟩
    · rw [hok] at HE
      have HI := Lib.hid (fun W (h : Below w.heap.size w W) => index_any _ L e.block a len cap W (hlow W h) hasc (by omega))
      unfold IndexPost at HI
      cases hlk : lookE L e.block with
      | none =>
        obtain ⟨r1, r2, r3⟩ := inst_d hva hok hlk
        rw [r2, r3]
        rw [hlk] at HI
        generalize installL L e = LL at r1 ⊢
        rw [← flat3] at r1
        clear r2 r3 hva hok hlk hasc hlow HEND
        generalize hkk : place L e.block = k at *
        have h3l := flat3_len L k e
        have HCC := Lib.hid (fun W y (h : ListsAt W (fun _ => True) y [L.take k, [e], L.drop k]) => concat_any _ [L.take k, [e], L.drop k] y 3 3 W h rfl (by decide) (by omega) (by omega))
        unfold OwnPost at HCC
        clear h3l
        have HLL := Lib.hid r1
        clear r1
        obtain ⟨eb, ek, ev, em, ez, eo⟩ := e
        try simp only at HV HE hA hr0 hx0 hs0 HI HLL HCC
        clear hkk
        rcases a with _ | x
        · obtain ⟨rfl, rfl, rfl⟩ := HL.out.none
          obtain rfl : k = 0 := by omega
          have HT := Lib.hid (fun W (h : Below w.heap.size w W) => (HLOW.out W h).taken (0) (by omega))
          have hd : ∀ W (h : Below w.heap.size w W), EList W (fun b => b < w.heap.size) none 0 0 (([] : List Ent).drop 0) := fun W h => HLOW.out W h
          have HD := Lib.hid hd
          clear hd
          go_enter Try.func44, Try.ntmps44
          generalize hw0 : (w.alloc (entRow eb ek ev em ez eo)).alloc (entRow 0 0 0 0 0 0) = w0 at *
          obtain ⟨c0, c1, c2, c3, c4, c5⟩ := entry_row hx0
          go_wp2_with (first
            | (go_at_call 56; ((with_reducible refine (HV.out _ hA).mono ?_); rintro e9 w1 ⟨rfl, hb1⟩; have hr1 := e_on hb1 hr0 (e_lt hr0); have hx1 := e_on hb1 hx0 (e_lt hx0); have b1 := hA.trans (hb1.mono hA.size); clear c0 c1 c2 c3 c4 c5; obtain ⟨c0, c1, c2, c3, c4, c5⟩ := entry_row hx1))
            | (go_at_call 60; ((with_reducible refine (HE.out _).mono ?_); rintro e9 w2 ⟨rfl, hb2⟩; have hr2 := e_on hb2 hr1 (e_lt hr1); have hx2 := e_on hb2 hx1 (e_lt hx1); have b2 := b1.trans (hb2.mono b1.size); clear c0 c1 c2 c3 c4 c5; obtain ⟨c0, c1, c2, c3, c4, c5⟩ := entry_row hx2))
            | (go_at_call 58; ((with_reducible refine (HI.out _ b2).mono ?_); rintro e9 w3 ⟨rfl, hb3⟩; have hr3 := e_on hb3 hr2 (e_lt hr2); have hx3 := e_on hb3 hx2 (e_lt hx2); have b3 := b2.trans (hb3.mono b2.size); clear c0 c1 c2 c3 c4 c5; obtain ⟨c0, c1, c2, c3, c4, c5⟩ := entry_row hx3; have n3 : w.heap.size + 2 ≤ w3.heap.size := Nat.le_trans (by omega) (Nat.le_trans hb1.size (Nat.le_trans hb2.size hb3.size)))))
          have hq4 : (w3.drew.alloc (entRow eb ek ev em ez eo)).heap[w3.heap.size]? = some (entRow eb ek ev em ez eo) := heap_alloc_new w3.drew (entRow eb ek ev em ez eo)
          have b4 : Below w.heap.size w (w3.drew.alloc (entRow eb ek ev em ez eo)) := b3.drew.alloc b3.size _
          have b5 : Below w.heap.size w ((w3.drew.alloc (entRow eb ek ev em ez eo)).alloc (.cells #[.slice none 0 0, .slice (some ⟨w3.heap.size, 0, none⟩) 1 1, .slice none 0 0] 49)) := b4.alloc b4.size _
          have hl5 : ((w3.drew.alloc (entRow eb ek ev em ez eo)).alloc (.cells #[.slice none 0 0, .slice (some ⟨w3.heap.size, 0, none⟩) 1 1, .slice none 0 0] 49)).heap[w3.heap.size + 1]? = some (.cells #[.slice none 0 0, .slice (some ⟨w3.heap.size, 0, none⟩) 1 1, .slice none 0 0] 49) := by
            have := heap_alloc_new (w3.drew.alloc (entRow eb ek ev em ez eo)) (.cells #[.slice none 0 0, .slice (some ⟨w3.heap.size, 0, none⟩) 1 1, .slice none 0 0] 49)
            rw [World.size_alloc] at this
            exact this
          have L5 := lists3 hl5 (HT.out _ b5) (elist_one (e_al hq4 _)) (HD.out _ b5)
          have hx4 : (w3.drew.alloc (entRow eb ek ev em ez eo)).heap[w.heap.size]? = some (entRow eb ek ev em ez eo) := e_al (show w3.drew.heap[w.heap.size]? = some (entRow eb ek ev em ez eo) from hx3) _
          have hr4 : (w3.drew.alloc (entRow eb ek ev em ez eo)).heap[w.heap.size + 1]? = some (entRow 0 0 0 0 0 0) := e_al (show w3.drew.heap[w.heap.size + 1]? = some (entRow 0 0 0 0 0 0) from hr3) _
          have hx5 := e_al hx4 (.cells #[.slice none 0 0, .slice (some ⟨w3.heap.size, 0, none⟩) 1 1, .slice none 0 0] 49)
          have hr5 := e_al hr4 (.cells #[.slice none 0 0, .slice (some ⟨w3.heap.size, 0, none⟩) 1 1, .slice none 0 0] 49)
          refine Plan.start (fun W => SixP W w.heap.size eb ek ev em ez eo) [(0, true), (1, true), (2, true), (3, true), (5, true), (6, true), (7, true), (10, true), (4, false), (8, false), (9, false), (11, true), (12, false), (13, true)] (by kernel_rfl) (by kernel_rfl) (by kernel_rfl) (by kernel_rfl) (entry_row hx3) ?_
          simp only [List.map_cons, List.map_nil, List.getElem?_toArray, List.getElem?_cons_zero, List.getElem?_cons_succ]
          repeat (first | (refine Plan.take ?_ (by rfl) ?_ ?_; rotate_left; (· rintro w9 ⟨u0, u1, u2, u3, u4, u5⟩; go_simp; (try rw [if_neg (by omega)]); all_goals (with_reducible rfl)); simp only [Act.put, List.setIfInBounds_toArray, List.set_cons_zero, List.set_cons_succ]) | (refine Plan.pass (by rfl) ?_; simp only [Act.put, List.setIfInBounds_toArray, List.set_cons_zero, List.set_cons_succ]))
          refine Plan.make (by rfl) (.slice (some ⟨w3.heap.size, 0, none⟩) 1 1) (w3.drew.alloc (entRow eb ek ev em ez eo)) ?_ (entry_row hx4) ?_
          · go_simp
          simp only [Act.put, List.setIfInBounds_toArray, List.set_cons_zero, List.set_cons_succ]
          refine Plan.make (by rfl) (.slice (some ⟨w3.heap.size + 1, 0, none⟩) 3 3) ((w3.drew.alloc (entRow eb ek ev em ez eo)).alloc (.cells #[.slice none 0 0, .slice (some ⟨w3.heap.size, 0, none⟩) 1 1, .slice none 0 0] 49)) ?_ (entry_row hx5) ?_
          · go_simp
          simp only [Act.put, List.setIfInBounds_toArray, List.set_cons_zero, List.set_cons_succ]
          refine Plan.call (by rfl) 45 _ ?_ (HCC.out _ _ L5) ?_
          · go_simp
          rintro e9 w6 ⟨g6, c6, rfl, hg6, hown6, hb6⟩
          have hx6 := e_on hb6 hx5 (e_lt hx5)
          have hr6 := e_on hb6 hr5 (e_lt hr5)
          have b6 := b5.trans (hb6.mono b5.size)
          have hg6' : w.heap.size + 2 ≤ g6 := Nat.le_trans (by simp only [World.size_alloc]; show w.heap.size + 2 ≤ w3.heap.size + 1 + 1; omega) hg6
          refine ⟨_, rfl, entry_row hx6, ?_⟩
          simp only [Act.put, List.setIfInBounds_toArray, List.set_cons_zero, List.set_cons_succ]
          repeat (first | (refine Plan.take ?_ (by rfl) ?_ ?_; rotate_left; (· rintro w9 ⟨u0, u1, u2, u3, u4, u5⟩; go_simp; (try rw [if_neg (by omega)]); all_goals (with_reducible rfl)); simp only [Act.put, List.setIfInBounds_toArray, List.set_cons_zero, List.set_cons_succ]) | (refine Plan.pass (by rfl) ?_; simp only [Act.put, List.setIfInBounds_toArray, List.set_cons_zero, List.set_cons_succ]))
          refine Plan.store (by rfl) 28 (.tmp 5) (.tmp 38) rfl (w.heap.size + 1) #[.int .i64 0, .int .i64 0, .int .i64 0, .int .i64 0, .int .i64 0, .int .i64 0] rfl rfl 28 _ hr6 entry_info rfl (by simp [Value.oneCell']) (entry_row ((setRow_other _ (w.heap.size + 1) w.heap.size _ (by omega)).trans hx6)) ?_
          simp only [Act.put]
          repeat (first | (refine Plan.take ?_ (by rfl) ?_ ?_; rotate_left; (· rintro w9 ⟨u0, u1, u2, u3, u4, u5⟩; go_simp; (try rw [if_neg (by omega)]); all_goals (with_reducible rfl)); simp only [Act.put, List.setIfInBounds_toArray, List.set_cons_zero, List.set_cons_succ]) | (refine Plan.pass (by rfl) ?_; simp only [Act.put, List.setIfInBounds_toArray, List.set_cons_zero, List.set_cons_succ]))
          refine Plan.ends ?_
          have hown9 := hown6.kept (sm_setRow w6 (w.heap.size + 1) #[.int .i64 0, .int .i64 0, .int .i64 0, .int .i64 0, .int .i64 0, .int .i64 0]) (.inr fun h9 => by have h8 := Option.some.inj (show some g6 = some (w.heap.size + 1) from h9); omega)
          obtain ⟨-, a7, c7, h7, hl7⟩ := owns_ents (F := Plus F w.heap.size) hown9 (fun b h9 => .inr (by have h8 := Option.some.inj (show some g6 = some b from h9); omega))
          cases h7
          clear hown9 hown6 hx6 hx5 hr5 hx4 hr4 hl5 L5 hq4 c0 c1 c2 c3 c4 c5
          go_wp2_with fail
          all_goals exact bodyPost_ret (results_tct (p := 4) (q := 5) (r := 6) rfl _ _ _ _ _ _ _ rfl (setRow_heap _ _ _ _ _ _ hr6) Try.underlying28 rfl entry_info) rfl ⟨_, _, _, rfl, (by rw [HLL.out]; first | exact hl7 | exact EList.to hl7 (by rw [flat3_len]; omega)), below_setRow b6 (show w.heap.size ≤ w.heap.size + 1 by omega) _⟩
        · have HT := Lib.hid (fun W (h : Below w.heap.size w W) => (HLOW.out W h).taken k (by omega))
          have HD := Lib.hid (fun W (h : Below w.heap.size w W) => (HLOW.out W h).dropped k (by omega))
          have hcap := HL.out.cap
          unfold maxLen at hcap
          have hkI : (k : Int) ≤ (len : Int) := by omega
          have hcI : (len : Int) ≤ (cap : Int) := by omega
          have hkc : (k : Int) ≤ (cap : Int) := by omega
          go_enter Try.func44, Try.ntmps44
          generalize hw0 : (w.alloc (entRow eb ek ev em ez eo)).alloc (entRow 0 0 0 0 0 0) = w0 at *
          obtain ⟨c0, c1, c2, c3, c4, c5⟩ := entry_row hx0
          go_wp2_with (first
            | (go_at_call 56; ((with_reducible refine (HV.out _ hA).mono ?_); rintro e9 w1 ⟨rfl, hb1⟩; have hr1 := e_on hb1 hr0 (e_lt hr0); have hx1 := e_on hb1 hx0 (e_lt hx0); have b1 := hA.trans (hb1.mono hA.size); clear c0 c1 c2 c3 c4 c5; obtain ⟨c0, c1, c2, c3, c4, c5⟩ := entry_row hx1))
            | (go_at_call 60; ((with_reducible refine (HE.out _).mono ?_); rintro e9 w2 ⟨rfl, hb2⟩; have hr2 := e_on hb2 hr1 (e_lt hr1); have hx2 := e_on hb2 hx1 (e_lt hx1); have b2 := b1.trans (hb2.mono b1.size); clear c0 c1 c2 c3 c4 c5; obtain ⟨c0, c1, c2, c3, c4, c5⟩ := entry_row hx2))
            | (go_at_call 58; ((with_reducible refine (HI.out _ b2).mono ?_); rintro e9 w3 ⟨rfl, hb3⟩; have hr3 := e_on hb3 hr2 (e_lt hr2); have hx3 := e_on hb3 hx2 (e_lt hx2); have b3 := b2.trans (hb3.mono b2.size); clear c0 c1 c2 c3 c4 c5; obtain ⟨c0, c1, c2, c3, c4, c5⟩ := entry_row hx3; have n3 : w.heap.size + 2 ≤ w3.heap.size := Nat.le_trans (by omega) (Nat.le_trans hb1.size (Nat.le_trans hb2.size hb3.size)))))
          have hq4 : (w3.drew.alloc (entRow eb ek ev em ez eo)).heap[w3.heap.size]? = some (entRow eb ek ev em ez eo) := heap_alloc_new w3.drew (entRow eb ek ev em ez eo)
          have b4 : Below w.heap.size w (w3.drew.alloc (entRow eb ek ev em ez eo)) := b3.drew.alloc b3.size _
          have b5 : Below w.heap.size w ((w3.drew.alloc (entRow eb ek ev em ez eo)).alloc (.cells #[.slice (some x) k cap, .slice (some ⟨w3.heap.size, 0, none⟩) 1 1, .slice (if cap = k then some x else some (x.add (k * 6))) (len - k) (cap - k)] 49)) := b4.alloc b4.size _
          have hl5 : ((w3.drew.alloc (entRow eb ek ev em ez eo)).alloc (.cells #[.slice (some x) k cap, .slice (some ⟨w3.heap.size, 0, none⟩) 1 1, .slice (if cap = k then some x else some (x.add (k * 6))) (len - k) (cap - k)] 49)).heap[w3.heap.size + 1]? = some (.cells #[.slice (some x) k cap, .slice (some ⟨w3.heap.size, 0, none⟩) 1 1, .slice (if cap = k then some x else some (x.add (k * 6))) (len - k) (cap - k)] 49) := by
            have := heap_alloc_new (w3.drew.alloc (entRow eb ek ev em ez eo)) (.cells #[.slice (some x) k cap, .slice (some ⟨w3.heap.size, 0, none⟩) 1 1, .slice (if cap = k then some x else some (x.add (k * 6))) (len - k) (cap - k)] 49)
            rw [World.size_alloc] at this
            exact this
          have L5 := lists3 hl5 (HT.out _ b5) (elist_one (e_al hq4 _)) (HD.out _ b5)
          have hx4 : (w3.drew.alloc (entRow eb ek ev em ez eo)).heap[w.heap.size]? = some (entRow eb ek ev em ez eo) := e_al (show w3.drew.heap[w.heap.size]? = some (entRow eb ek ev em ez eo) from hx3) _
          have hr4 : (w3.drew.alloc (entRow eb ek ev em ez eo)).heap[w.heap.size + 1]? = some (entRow 0 0 0 0 0 0) := e_al (show w3.drew.heap[w.heap.size + 1]? = some (entRow 0 0 0 0 0 0) from hr3) _
          have hx5 := e_al hx4 (.cells #[.slice (some x) k cap, .slice (some ⟨w3.heap.size, 0, none⟩) 1 1, .slice (if cap = k then some x else some (x.add (k * 6))) (len - k) (cap - k)] 49)
          have hr5 := e_al hr4 (.cells #[.slice (some x) k cap, .slice (some ⟨w3.heap.size, 0, none⟩) 1 1, .slice (if cap = k then some x else some (x.add (k * 6))) (len - k) (cap - k)] 49)
          refine Plan.start (fun W => SixP W w.heap.size eb ek ev em ez eo) [(0, true), (1, true), (2, true), (3, true), (5, true), (6, true), (7, true), (10, true), (4, false), (8, false), (9, false), (11, true), (12, false), (13, true)] (by kernel_rfl) (by kernel_rfl) (by kernel_rfl) (by kernel_rfl) (entry_row hx3) ?_
          simp only [List.map_cons, List.map_nil, List.getElem?_toArray, List.getElem?_cons_zero, List.getElem?_cons_succ]
          repeat (first | (refine Plan.take ?_ (by rfl) ?_ ?_; rotate_left; (· rintro w9 ⟨u0, u1, u2, u3, u4, u5⟩; go_simp; (try rw [if_neg (by omega)]); all_goals (with_reducible rfl)); simp only [Act.put, List.setIfInBounds_toArray, List.set_cons_zero, List.set_cons_succ]) | (refine Plan.pass (by rfl) ?_; simp only [Act.put, List.setIfInBounds_toArray, List.set_cons_zero, List.set_cons_succ]))
          refine Plan.make (by rfl) (.slice (some ⟨w3.heap.size, 0, none⟩) 1 1) (w3.drew.alloc (entRow eb ek ev em ez eo)) ?_ (entry_row hx4) ?_
          · go_simp
          simp only [Act.put, List.setIfInBounds_toArray, List.set_cons_zero, List.set_cons_succ]
          refine Plan.make (by rfl) (.slice (some ⟨w3.heap.size + 1, 0, none⟩) 3 3) ((w3.drew.alloc (entRow eb ek ev em ez eo)).alloc (.cells #[.slice (some x) k cap, .slice (some ⟨w3.heap.size, 0, none⟩) 1 1, .slice (if cap = k then some x else some (x.add (k * 6))) (len - k) (cap - k)] 49)) ?_ (entry_row hx5) ?_
          · go_simp
          simp only [Act.put, List.setIfInBounds_toArray, List.set_cons_zero, List.set_cons_succ]
          refine Plan.call (by rfl) 45 _ ?_ (HCC.out _ _ L5) ?_
          · go_simp
          rintro e9 w6 ⟨g6, c6, rfl, hg6, hown6, hb6⟩
          have hx6 := e_on hb6 hx5 (e_lt hx5)
          have hr6 := e_on hb6 hr5 (e_lt hr5)
          have b6 := b5.trans (hb6.mono b5.size)
          have hg6' : w.heap.size + 2 ≤ g6 := Nat.le_trans (by simp only [World.size_alloc]; show w.heap.size + 2 ≤ w3.heap.size + 1 + 1; omega) hg6
          refine ⟨_, rfl, entry_row hx6, ?_⟩
          simp only [Act.put, List.setIfInBounds_toArray, List.set_cons_zero, List.set_cons_succ]
          repeat (first | (refine Plan.take ?_ (by rfl) ?_ ?_; rotate_left; (· rintro w9 ⟨u0, u1, u2, u3, u4, u5⟩; go_simp; (try rw [if_neg (by omega)]); all_goals (with_reducible rfl)); simp only [Act.put, List.setIfInBounds_toArray, List.set_cons_zero, List.set_cons_succ]) | (refine Plan.pass (by rfl) ?_; simp only [Act.put, List.setIfInBounds_toArray, List.set_cons_zero, List.set_cons_succ]))
          refine Plan.store (by rfl) 28 (.tmp 5) (.tmp 38) rfl (w.heap.size + 1) #[.int .i64 0, .int .i64 0, .int .i64 0, .int .i64 0, .int .i64 0, .int .i64 0] rfl rfl 28 _ hr6 entry_info rfl (by simp [Value.oneCell']) (entry_row ((setRow_other _ (w.heap.size + 1) w.heap.size _ (by omega)).trans hx6)) ?_
          simp only [Act.put]
          repeat (first | (refine Plan.take ?_ (by rfl) ?_ ?_; rotate_left; (· rintro w9 ⟨u0, u1, u2, u3, u4, u5⟩; go_simp; (try rw [if_neg (by omega)]); all_goals (with_reducible rfl)); simp only [Act.put, List.setIfInBounds_toArray, List.set_cons_zero, List.set_cons_succ]) | (refine Plan.pass (by rfl) ?_; simp only [Act.put, List.setIfInBounds_toArray, List.set_cons_zero, List.set_cons_succ]))
          refine Plan.ends ?_
          have hown9 := hown6.kept (sm_setRow w6 (w.heap.size + 1) #[.int .i64 0, .int .i64 0, .int .i64 0, .int .i64 0, .int .i64 0, .int .i64 0]) (.inr fun h9 => by have h8 := Option.some.inj (show some g6 = some (w.heap.size + 1) from h9); omega)
          obtain ⟨-, a7, c7, h7, hl7⟩ := owns_ents (F := Plus F w.heap.size) hown9 (fun b h9 => .inr (by have h8 := Option.some.inj (show some g6 = some b from h9); omega))
          cases h7
          clear hown9 hown6 hx6 hx5 hr5 hx4 hr4 hl5 L5 hq4 c0 c1 c2 c3 c4 c5
          go_wp2_with fail
          all_goals exact bodyPost_ret (results_tct (p := 4) (q := 5) (r := 6) rfl _ _ _ _ _ _ _ rfl (setRow_heap _ _ _ _ _ _ hr6) Try.underlying28 rfl entry_info) rfl ⟨_, _, _, rfl, (by rw [HLL.out]; first | exact hl7 | exact EList.to hl7 (by rw [flat3_len]; omega)), below_setRow b6 (show w.heap.size ≤ w.heap.size + 1 by omega) _⟩
      | some y =>
        have hyb := look_block hlk
        have hat := place_some hasc hlk
        have hin := place_in hasc hlk
        rw [hlen] at hin
        rw [hlk] at HI
        have hc := fun W (h : Below w.heap.size w W) => (show ∃ x, a = some x ∧ EntAt W x (place L e.block) y from by
          obtain ⟨x, e', rfl, he', h'⟩ := (hlow W h).ent (place L e.block) hin
          rw [hat] at he'
          obtain rfl := Option.some.inj he'
          exact ⟨x, rfl, h'⟩)
        obtain ⟨x, rfl, -⟩ := hc w (Below.refl _ _)
        have HY := Lib.hid (fun W (h : Below w.heap.size w W) => (show EntAt W x (place L e.block) y from by
          obtain ⟨x', hx', h'⟩ := hc W h
          obtain rfl := Option.some.inj hx'
          exact h'))
        clear hc
        by_cases hvv : e.version ≤ y.version
        · obtain ⟨r1, r2, r3⟩ := inst_c hva hok hlk hvv
          rw [r1, r2, r3]
          clear r1 r2 r3 hva hok hlk hasc hat hyb hlow
          generalize hkk : place L e.block = k at *
          have hkI : (k : Int) < (len : Int) := by omega
          obtain ⟨yb, yk, yv, ym, yz, yo⟩ := y
          obtain ⟨eb, ek, ev, em, ez, eo⟩ := e
          try simp only at HV HE hA hr0 hx0 hs0 HI HY hvv
          clear hkk
          go_enter Try.func44, Try.ntmps44
          generalize hw0 : (w.alloc (entRow eb ek ev em ez eo)).alloc (entRow 0 0 0 0 0 0) = w0 at *
          obtain ⟨c0, c1, c2, c3, c4, c5⟩ := entry_row hx0
          go_wp2_with (first
            | (go_at_call 56; ((with_reducible refine (HV.out _ hA).mono ?_); rintro e9 w1 ⟨rfl, hb1⟩; have hr1 := e_on hb1 hr0 (e_lt hr0); have hx1 := e_on hb1 hx0 (e_lt hx0); have b1 := hA.trans (hb1.mono hA.size); clear c0 c1 c2 c3 c4 c5; obtain ⟨c0, c1, c2, c3, c4, c5⟩ := entry_row hx1))
            | (go_at_call 60; ((with_reducible refine (HE.out _).mono ?_); rintro e9 w2 ⟨rfl, hb2⟩; have hr2 := e_on hb2 hr1 (e_lt hr1); have hx2 := e_on hb2 hx1 (e_lt hx1); have b2 := b1.trans (hb2.mono b1.size); clear c0 c1 c2 c3 c4 c5; obtain ⟨c0, c1, c2, c3, c4, c5⟩ := entry_row hx2))
            | (go_at_call 58; ((with_reducible refine (HI.out _ b2).mono ?_); rintro e9 w3 ⟨rfl, hb3⟩; have hr3 := e_on hb3 hr2 (e_lt hr2); have hx3 := e_on hb3 hx2 (e_lt hx2); have b3 := b2.trans (hb3.mono b2.size); clear c0 c1 c2 c3 c4 c5; obtain ⟨c0, c1, c2, c3, c4, c5⟩ := entry_row hx3; have hr4 := e_al hr3 (entRow yb yk yv ym yz yo); have hx4 := e_al hx3 (entRow yb yk yv ym yz yo); have ho4 := heap_alloc_new w3 (entRow yb yk yv ym yz yo); have b4 := b3.alloc b3.size (entRow yb yk yv ym yz yo); have n3 : w.heap.size + 2 ≤ w3.heap.size := Nat.le_trans (by omega) (Nat.le_trans hb1.size (Nat.le_trans hb2.size hb3.size)); obtain ⟨y0, y1, y2, y3, y4, y5⟩ := HY.out _ b3; clear c0 c1 c2 c3 c4 c5; obtain ⟨c0, c1, c2, c3, c4, c5⟩ := entry_row hx4; obtain ⟨o0, o1, o2, o3, o4, o5⟩ := entry_row ho4)))
          refine Plan.start (fun W => SixP W w3.heap.size yb yk yv ym yz yo) [(0, true), (1, true), (2, true), (3, false), (4, true)] (by kernel_rfl) (by kernel_rfl) (by kernel_rfl) (by kernel_rfl) (entry_row ho4) ?_
          simp only [List.map_cons, List.map_nil, List.getElem?_toArray, List.getElem?_cons_zero, List.getElem?_cons_succ]
          repeat (first | (refine Plan.take ?_ (by rfl) ?_ ?_; rotate_left; (· rintro w9 ⟨u0, u1, u2, u3, u4, u5⟩; go_simp; (try rw [if_neg (by omega)]); all_goals (with_reducible rfl)); simp only [Act.put, List.setIfInBounds_toArray, List.set_cons_zero, List.set_cons_succ]) | (refine Plan.pass (by rfl) ?_; simp only [Act.put, List.setIfInBounds_toArray, List.set_cons_zero, List.set_cons_succ]))
          refine Plan.store (by rfl) 28 (.tmp 5) (.tmp 49) rfl (w.heap.size + 1) #[.int .i64 yb, .int .i64 yk, .int .i64 yv, .int .i64 ym, .int .i64 yz, .int .i64 yo] rfl rfl 28 _ (show (w3.alloc (entRow yb yk yv ym yz yo)).drew.heap[w.heap.size + 1]? = _ from hr4) entry_info rfl (by simp [Value.oneCell']) (entry_row ((setRow_other _ (w.heap.size + 1) w3.heap.size _ (by omega)).trans (show (w3.alloc (entRow yb yk yv ym yz yo)).drew.heap[w3.heap.size]? = _ from ho4))) ?_
          simp only [Act.put]
          repeat (first | (refine Plan.take ?_ (by rfl) ?_ ?_; rotate_left; (· rintro w9 ⟨u0, u1, u2, u3, u4, u5⟩; go_simp; (try rw [if_neg (by omega)]); all_goals (with_reducible rfl)); simp only [Act.put, List.setIfInBounds_toArray, List.set_cons_zero, List.set_cons_succ]) | (refine Plan.pass (by rfl) ?_; simp only [Act.put, List.setIfInBounds_toArray, List.set_cons_zero, List.set_cons_succ]))
          refine Plan.ends ?_
          have hl9 := HEND.out _ b4.drew #[.int .i64 yb, .int .i64 yk, .int .i64 yv, .int .i64 ym, .int .i64 yz, .int .i64 yo]
          have b9 := below_setRow b4.drew (show w.heap.size ≤ w.heap.size + 1 by omega) #[.int .i64 yb, .int .i64 yk, .int .i64 yv, .int .i64 ym, .int .i64 yz, .int .i64 yo]
          have hr9 := setRow_heap (w3.alloc (entRow yb yk yv ym yz yo)).drew (w.heap.size + 1) _ #[.int .i64 yb, .int .i64 yk, .int .i64 yv, .int .i64 ym, .int .i64 yz, .int .i64 yo] _ _ (show (w3.alloc (entRow yb yk yv ym yz yo)).drew.heap[w.heap.size + 1]? = _ from hr4)
          generalize (w3.alloc (entRow yb yk yv ym yz yo)).drew.setRow (w.heap.size + 1) #[.int .i64 yb, .int .i64 yk, .int .i64 yv, .int .i64 ym, .int .i64 yz, .int .i64 yo] = w9 at *
          clear o0 o1 o2 o3 o4 o5 c0 c1 c2 c3 c4 c5 y0 y1 y2 y3 y4 y5
          go_wp2_with fail
          exact bodyPost_ret (results_tct (p := 4) (q := 5) (r := 6) rfl _ _ _ _ _ _ _ rfl hr9 Try.underlying28 rfl entry_info) rfl ⟨_, _, _, rfl, hl9, b9⟩
        · have hset : installL L e = L.set (place L e.block) e := by
            rw [(inst_e hva hok hlk (by omega)).1, List.append_assoc, List.singleton_append, ins_over e y hlk hasc, ins_set e y hlk hasc]
          obtain ⟨-, r2, r3⟩ := inst_e hva hok hlk (by omega)
          rw [r2, r3]
          generalize installL L e = LL at hset ⊢
          have HW := Lib.hid (fun W (h : Below w.heap.size w W) => with_any _ L e x len cap (place L e.block) W ((HL.out.cut).on (Same.below h)) hin (by omega))
          unfold ListPost at HW
          have HLL := Lib.hid hset
          clear r2 r3 hva hok hlk hasc hat hyb hlow HEND hset
          generalize hkk : place L e.block = k at *
          have hkI : (k : Int) < (len : Int) := by omega
          obtain ⟨yb, yk, yv, ym, yz, yo⟩ := y
          obtain ⟨eb, ek, ev, em, ez, eo⟩ := e
          try simp only at HV HE hA hr0 hx0 hs0 HI HY HW HLL hvv
          clear hkk
          go_enter Try.func44, Try.ntmps44
          generalize hw0 : (w.alloc (entRow eb ek ev em ez eo)).alloc (entRow 0 0 0 0 0 0) = w0 at *
          obtain ⟨c0, c1, c2, c3, c4, c5⟩ := entry_row hx0
          go_wp2_with (first
            | (go_at_call 56; ((with_reducible refine (HV.out _ hA).mono ?_); rintro e9 w1 ⟨rfl, hb1⟩; have hr1 := e_on hb1 hr0 (e_lt hr0); have hx1 := e_on hb1 hx0 (e_lt hx0); have b1 := hA.trans (hb1.mono hA.size); clear c0 c1 c2 c3 c4 c5; obtain ⟨c0, c1, c2, c3, c4, c5⟩ := entry_row hx1))
            | (go_at_call 60; ((with_reducible refine (HE.out _).mono ?_); rintro e9 w2 ⟨rfl, hb2⟩; have hr2 := e_on hb2 hr1 (e_lt hr1); have hx2 := e_on hb2 hx1 (e_lt hx1); have b2 := b1.trans (hb2.mono b1.size); clear c0 c1 c2 c3 c4 c5; obtain ⟨c0, c1, c2, c3, c4, c5⟩ := entry_row hx2))
            | (go_at_call 58; ((with_reducible refine (HI.out _ b2).mono ?_); rintro e9 w3 ⟨rfl, hb3⟩; have hr3 := e_on hb3 hr2 (e_lt hr2); have hx3 := e_on hb3 hx2 (e_lt hx2); have b3 := b2.trans (hb3.mono b2.size); clear c0 c1 c2 c3 c4 c5; obtain ⟨c0, c1, c2, c3, c4, c5⟩ := entry_row hx3; have hr4 := e_al hr3 (entRow yb yk yv ym yz yo); have hx4 := e_al hx3 (entRow yb yk yv ym yz yo); have ho4 := heap_alloc_new w3 (entRow yb yk yv ym yz yo); have b4 := b3.alloc b3.size (entRow yb yk yv ym yz yo); have n3 : w.heap.size + 2 ≤ w3.heap.size := Nat.le_trans (by omega) (Nat.le_trans hb1.size (Nat.le_trans hb2.size hb3.size)); obtain ⟨y0, y1, y2, y3, y4, y5⟩ := HY.out _ b3; clear c0 c1 c2 c3 c4 c5; obtain ⟨c0, c1, c2, c3, c4, c5⟩ := entry_row hx4; obtain ⟨o0, o1, o2, o3, o4, o5⟩ := entry_row ho4)))
          refine Plan.start (fun W => SixP W w.heap.size eb ek ev em ez eo ∧ SixP W w3.heap.size yb yk yv ym yz yo) [(0, true), (1, true), (2, true), (4, true), (3, false), (5, true), (6, false), (7, true)] (by kernel_rfl) (by kernel_rfl) (by kernel_rfl) (by kernel_rfl) ⟨entry_row hx4, entry_row ho4⟩ ?_
          simp only [List.map_cons, List.map_nil, List.getElem?_toArray, List.getElem?_cons_zero, List.getElem?_cons_succ]
          repeat (first | (refine Plan.take ?_ (by rfl) ?_ ?_; rotate_left; (· rintro w9 ⟨⟨u0, u1, u2, u3, u4, u5⟩, ⟨v0, v1, v2, v3, v4, v5⟩⟩; go_simp; (try rw [if_neg (by omega)]); all_goals (with_reducible rfl)); simp only [Act.put, List.setIfInBounds_toArray, List.set_cons_zero, List.set_cons_succ]) | (refine Plan.pass (by rfl) ?_; simp only [Act.put, List.setIfInBounds_toArray, List.set_cons_zero, List.set_cons_succ]))
          have b4' : Below w.heap.size w (w3.alloc (entRow yb yk yv ym yz yo)).drew := b4.drew
          refine Plan.call (by rfl) 61 _ ?_ (HW.out _ b4') ?_
          · go_simp
          rintro e9 w6 ⟨a6, n6, c6, rfl, hl6, hb6⟩
          have hx6 := e_on hb6 (show (w3.alloc (entRow yb yk yv ym yz yo)).drew.heap[w.heap.size]? = _ from hx4) (e_lt hx4)
          have ho6 := e_on hb6 (show (w3.alloc (entRow yb yk yv ym yz yo)).drew.heap[w3.heap.size]? = _ from ho4) (e_lt ho4)
          have hr6 := e_on hb6 (show (w3.alloc (entRow yb yk yv ym yz yo)).drew.heap[w.heap.size + 1]? = _ from hr4) (e_lt hr4)
          have b6 := b4'.trans (hb6.mono b4'.size)
          refine ⟨_, rfl, ⟨entry_row hx6, entry_row ho6⟩, ?_⟩
          simp only [Act.put, List.setIfInBounds_toArray, List.set_cons_zero, List.set_cons_succ]
          repeat (first | (refine Plan.take ?_ (by rfl) ?_ ?_; rotate_left; (· rintro w9 ⟨⟨u0, u1, u2, u3, u4, u5⟩, ⟨v0, v1, v2, v3, v4, v5⟩⟩; go_simp; (try rw [if_neg (by omega)]); all_goals (with_reducible rfl)); simp only [Act.put, List.setIfInBounds_toArray, List.set_cons_zero, List.set_cons_succ]) | (refine Plan.pass (by rfl) ?_; simp only [Act.put, List.setIfInBounds_toArray, List.set_cons_zero, List.set_cons_succ]))
          refine Plan.store (by rfl) 28 (.tmp 5) (.tmp 54) rfl (w.heap.size + 1) #[.int .i64 yb, .int .i64 yk, .int .i64 yv, .int .i64 ym, .int .i64 yz, .int .i64 yo] rfl rfl 28 _ hr6 entry_info rfl (by simp [Value.oneCell']) ⟨entry_row ((setRow_other _ (w.heap.size + 1) w.heap.size _ (by omega)).trans hx6), entry_row ((setRow_other _ (w.heap.size + 1) w3.heap.size _ (by omega)).trans ho6)⟩ ?_
          simp only [Act.put]
          repeat (first | (refine Plan.take ?_ (by rfl) ?_ ?_; rotate_left; (· rintro w9 ⟨⟨u0, u1, u2, u3, u4, u5⟩, ⟨v0, v1, v2, v3, v4, v5⟩⟩; go_simp; (try rw [if_neg (by omega)]); all_goals (with_reducible rfl)); simp only [Act.put, List.setIfInBounds_toArray, List.set_cons_zero, List.set_cons_succ]) | (refine Plan.pass (by rfl) ?_; simp only [Act.put, List.setIfInBounds_toArray, List.set_cons_zero, List.set_cons_succ]))
          refine Plan.ends ?_
          have hl9 := (hl6.on (Same.row (r := w.heap.size + 1) (fun h9 => not_new (by show w.heap.size + 1 < (w3.alloc (entRow yb yk yv ym yz yo)).heap.size; simp only [World.size_alloc]; omega) h9 (by omega)) #[.int .i64 yb, .int .i64 yk, .int .i64 yv, .int .i64 ym, .int .i64 yz, .int .i64 yo])).mono (G := Plus F w.heap.size) (fun b _ h9 => by rcases h9 with h9 | h9; (· exact .inl h9.1); (· exact .inr (Nat.le_trans b4'.size h9)))
          clear o0 o1 o2 o3 o4 o5 c0 c1 c2 c3 c4 c5 y0 y1 y2 y3 y4 y5 hl6
          go_wp2_with fail
          all_goals exact bodyPost_ret (results_tct (p := 4) (q := 5) (r := 6) rfl _ _ _ _ _ _ _ rfl (setRow_heap _ _ _ _ _ _ hr6) Try.underlying28 rfl entry_info) rfl ⟨_, _, _, rfl, (by rw [HLL.out]; exact hl9), below_setRow b6 (show w.heap.size ≤ w.heap.size + 1 by omega) _⟩
end Go.Proofs.Ytljobnfilnbefaa.Ents

/- The walk of the program's Relocate. -/
namespace Go.Proofs.Ytljobnfilnbefaa.Ents
open Go.RowKit Plan EntMath
theorem sc_row {w : World} {g j : Nat} {cs : Array Value} {t : TypeId} {fr : Nat × Nat} {u : Value} (h : w.heap[g]? = some (.cells cs t fr)) : (w.setCell ⟨g, j, none⟩ u).heap[g]? = some (.cells (cs.setIfInBounds j u) t fr) := by
  rw [setCell_eq_setRow w g j cs t fr u h]
  exact setRow_heap w g cs _ t fr h
theorem ok_moved_iff {x : Ent} {tz to m : Int} (h : okE x = true) : okE (moved x tz to m) = true ↔ 0 ≤ tz ∧ 0 ≤ to ∧ 0 ≤ m ∧ m ≤ 255 := by
  have h1 := ok_iff.1 h
  constructor
  · intro h2
    have h3 := ok_iff.1 h2
    unfold moved at h3
    simp only at h3
    omega
  · rintro ⟨h2, h3, h4, h5⟩
    exact ok_moved h h2 h3 h4 h5
theorem e_free {w : World} {g : Nat} {cs : Array Value} {t : TypeId} (h : w.heap[g]? = some (.cells cs t (0, 0))) (o : Nat) : w.frozen? ⟨g, o, none⟩ = false := by simp [World.frozen?, h]
set_option maxHeartbeats 4000000 in
set_option maxRecDepth 20000 in
theorem relocate_any (F : Nat → Prop) (L : List Ent) (b v fz fo tz to m : Int) (a : Option Addr) (len cap : Nat) (w : World) (hl : EList w F a len cap L) (hm : len ≤ 800000) :
    Calls Try.prog 43 #[.slice a len cap, .int .i64 b, .int .i64 v, .agg #[.int .i64 fz, .int .i64 fo], .agg #[.int .i64 tz, .int .i64 to], .int .i64 m] w (RelPost w F (relocL L b v fz fo tz to m) (moves L b v fz fo tz to m)) := by
  have hlen := hl.length
  have hA := ((Below.refl w.heap.size w).alloc (Nat.le_refl _) (placeRow fz fo)).alloc (by simp) (placeRow tz to)
  have hr0 := heap_second w (placeRow fz fo) (placeRow tz to)
  have hx0 := heap_first w (placeRow fz fo) (placeRow tz to)
  have hlow := fun W (h : Below w.heap.size w W) => hl.low.on (Same.low h)
  have HV := Lib.hid (fun W h => valid_any _ L a len cap W (hlow W h))
  have hend := fun W (h : Below w.heap.size w W) => (show EList W (Plus F w.heap.size) a len cap L from (hl.cut.on (Same.below (w' := W) h)).mono (fun b _ h => .inl h.1))
  have HEND := Lib.hid hend
  have HL := Lib.hid hl
  clear hend hl
  cases hva : validB L
  · obtain ⟨r1, r2⟩ := rel_a (b := b) (v := v) (fz := fz) (fo := fo) (tz := tz) (to := to) (m := m) hva
    rw [r1, r2]
    rw [hva] at HV
    clear r1 r2 hva hlow
    go_enter Try.func43, Try.ntmps43
    generalize hw0 : (w.alloc (placeRow fz fo)).alloc (placeRow tz to) = w0 at *
    go_wp2_with (first
      | (go_at_call 56; ((with_reducible refine (HV.out _ hA).mono ?_); rintro e9 w1 ⟨rfl, hb1⟩; have hr1 := e_on hb1 hr0 (e_lt hr0); have hx1 := e_on hb1 hx0 (e_lt hx0); have b1 := hA.trans (hb1.mono hA.size))))
    go_ret2
    exact ⟨_, _, _, rfl, EList.nil _ _, b1⟩
  · rw [hva] at HV
    have hasc := (valid_iff.1 hva).2
    have hfl := find_look hva b
    have HI := Lib.hid (fun W (h : Below w.heap.size w W) => index_any _ L b a len cap W (hlow W h) hasc (by omega))
    unfold IndexPost at HI
    cases hlk : lookE L b with
    | none =>
      rw [hlk] at HI hfl
      have hm0 := rel_none (v := v) (fz := fz) (fo := fo) (tz := tz) (to := to) (m := m) hfl
      rw [rel_no hva hm0, hm0]
      clear hm0 hlow hva hasc hlk hfl
      generalize place L b = k at *
      go_enter Try.func43, Try.ntmps43
      generalize hw0 : (w.alloc (placeRow fz fo)).alloc (placeRow tz to) = w0 at *
      go_wp2_with (first
        | (go_at_call 56; ((with_reducible refine (HV.out _ hA).mono ?_); rintro e9 w1 ⟨rfl, hb1⟩; have hr1 := e_on hb1 hr0 (e_lt hr0); have hx1 := e_on hb1 hx0 (e_lt hx0); have b1 := hA.trans (hb1.mono hA.size)))
        | (go_at_call 58; ((with_reducible refine (HI.out _ b1).mono ?_); rintro e9 w2 ⟨rfl, hb2⟩; have hr2 := e_on hb2 hr1 (e_lt hr1); have hx2 := e_on hb2 hx1 (e_lt hx1); have b2 := b1.trans (hb2.mono b1.size))))
      refine Plan.start (fun W => True) [(0, true), (1, true), (2, true), (3, true), (4, true), (5, true), (6, true), (7, true), (8, true), (9, true), (10, true), (11, true), (12, true), (13, true), (14, true), (15, true), (16, true), (17, true), (18, true), (19, true)] (by kernel_rfl) (by kernel_rfl) (by kernel_rfl) (by kernel_rfl) trivial ?_
      simp only [List.map_cons, List.map_nil, List.getElem?_toArray, List.getElem?_cons_zero, List.getElem?_cons_succ]
      repeat (first | (refine Plan.take ?_ (by rfl) ?_ ?_; rotate_left; (· rintro w9 -; go_simp; (try rw [if_neg (by omega)]); all_goals (with_reducible rfl)); simp only [Act.put, List.setIfInBounds_toArray, List.set_cons_zero, List.set_cons_succ]) | (refine Plan.pass (by rfl) ?_; simp only [Act.put, List.setIfInBounds_toArray, List.set_cons_zero, List.set_cons_succ]))
      refine Plan.ends ?_
      have b3 := b2.drew
      go_wp2_with fail
      go_ret2
      exact ⟨_, _, _, rfl, HEND.out _ b3, b3⟩
    | some y =>
      rw [hlk] at HI hfl
      have hyok := (valid_iff.1 hva).1 y (look_mem hlk)
      have hmv := @rel_some L b v fz fo tz to m y hfl
      have hn := fun h => @rel_no L b v fz fo tz to m hva h
      have hyy := fun h => @rel_yes L b v fz fo tz to m y hva hlk h
      have hat := place_some hasc hlk
      have hin := place_in hasc hlk
      rw [hlen] at hin
      have hc := fun W (h : Below w.heap.size w W) => (show ∃ x, a = some x ∧ EntAt W x (place L b) y from by
        obtain ⟨x, e', rfl, he', h'⟩ := (hlow W h).ent (place L b) hin
        rw [hat] at he'
        obtain rfl := Option.some.inj he'
        exact ⟨x, rfl, h'⟩)
      obtain ⟨x, rfl, -⟩ := hc w (Below.refl _ _)
      have HY := Lib.hid (fun W (h : Below w.heap.size w W) => (show EntAt W x (place L b) y from by
        obtain ⟨x', hx', h'⟩ := hc W h
        obtain rfl := Option.some.inj hx'
        exact h'))
      have HW := Lib.hid (fun W (h : Below w.heap.size w W) => with_any _ L (moved y tz to m) x len cap (place L b) W ((HL.out.cut).on (Same.below h)) hin (by omega))
      have HE := Lib.hid (fun W => possible_any (moved y tz to m) W)
      have hoi := @ok_moved_iff y tz to m hyok
      unfold ListPost at HW
      generalize relocL L b v fz fo tz to m = RL at *
      generalize moves L b v fz fo tz to m = M at *
      generalize place L b = k at *
      have hkI : (k : Int) < (len : Int) := by omega
      have HMV := Lib.hid hmv
      have HN := Lib.hid hn
      have HYY := Lib.hid hyy
      clear hmv hn hyy hva hlk hat hc hfl hasc hlow hyok
      obtain ⟨yb, yk, yv, ym, yz, yo⟩ := y
      unfold moved at HW HE hoi HYY
      try simp only at HMV HYY HW HE HY hoi
      have HNO : RowKit.Hid (¬ (yv = v ∧ yz = fz ∧ yo = fo ∧ 0 ≤ tz ∧ 0 ≤ to ∧ 0 ≤ m ∧ m ≤ 255) → M = false) := Lib.hid (fun h => by
        cases M
        · rfl
        · exact absurd (HMV.out.1 rfl) h)
      by_cases h1 : yv = v
      · subst h1
        have t1 : (yv != yv) = false := by simp
        by_cases h2 : yz = fz
        · subst h2
          by_cases h3 : yo = fo
          · subst h3
            cases hoo : okE ⟨yb, yk, yv, m, tz, to⟩
            · have HM : RowKit.Hid (M = false) := Lib.hid (HNO.out (fun h => by rw [hoi.2 ⟨by omega, by omega, by omega, by omega⟩] at hoo; cases hoo))
              rw [hoo] at HE
              clear hoo hoi HNO HMV
              go_enter Try.func43, Try.ntmps43
              generalize hw0 : (w.alloc (placeRow yz yo)).alloc (placeRow tz to) = w0 at *
              go_wp2_with (first
                | (go_at_call 56; ((with_reducible refine (HV.out _ hA).mono ?_); rintro e9 w1 ⟨rfl, hb1⟩; have hr1 := e_on hb1 hr0 (e_lt hr0); have hx1 := e_on hb1 hx0 (e_lt hx0); have b1 := hA.trans (hb1.mono hA.size)))
                | (go_at_call 58; ((with_reducible refine (HI.out _ b1).mono ?_); rintro e9 w2 ⟨rfl, hb2⟩; have hr2 := e_on hb2 hr1 (e_lt hr1); have hx2 := e_on hb2 hx1 (e_lt hx1); have b2 := b1.trans (hb2.mono b1.size); have hy2 := HY.out _ b2; obtain ⟨y0, y1, y2, y3, y4, y5⟩ := HY.out _ b2; obtain ⟨c0, c1⟩ := place_row hx2)))
              refine Plan.start (fun W => EntAt W x k ⟨yb, yk, yv, ym, yz, yo⟩ ∧ W.cell? ⟨w.heap.size, 0, none⟩ = some (.int .i64 yz) ∧ W.cell? ⟨w.heap.size, 1, none⟩ = some (.int .i64 yo)) [(0, true), (1, true), (2, true), (3, true), (4, true), (5, true), (6, true), (7, true), (8, true), (9, true), (10, true), (11, true), (12, true), (13, true), (14, true), (15, true), (16, true), (17, true), (18, true), (19, true)] (by kernel_rfl) (by kernel_rfl) (by kernel_rfl) (by kernel_rfl) ⟨hy2, c0, c1⟩ ?_
              simp only [List.map_cons, List.map_nil, List.getElem?_toArray, List.getElem?_cons_zero, List.getElem?_cons_succ]
              repeat (first | (refine Plan.take ?_ (by rfl) ?_ ?_; rotate_left; (· rintro w9 ⟨⟨u0, u1, u2, u3, u4, u5⟩, v0, v1⟩; go_simp; (try rw [if_neg (by omega)]); all_goals (with_reducible rfl)); simp only [Act.put, List.setIfInBounds_toArray, List.set_cons_zero, List.set_cons_succ]) | (refine Plan.pass (by rfl) ?_; simp only [Act.put, List.setIfInBounds_toArray, List.set_cons_zero, List.set_cons_succ]))
              refine Plan.ends ?_
              have b3 := b2.drew
              have hr3 : w2.drew.heap[w.heap.size + 1]? = some (placeRow tz to) := hr2
              obtain ⟨y0, y1, y2, y3, y4, y5⟩ := HY.out _ b3
              generalize w2.drew = w3 at *
              have hg4 := heap_alloc_new w3 (entRow yb yk yv ym yz yo)
              have b4 := b3.alloc b3.size (entRow yb yk yv ym yz yo)
              have hr4 := e_al hr3 (entRow yb yk yv ym yz yo)
              obtain ⟨d0, d1⟩ := place_row hr4
              obtain ⟨g0, g1, g2, g3, g4, g5⟩ := entry_row hg4
              have f3 : (w3.alloc (entRow yb yk yv ym yz yo)).frozen? ⟨w3.heap.size, 3, none⟩ = false := e_free hg4 3
              have f4 : (w3.alloc (entRow yb yk yv ym yz yo)).frozen? ⟨w3.heap.size, 4, none⟩ = false := e_free hg4 4
              have f5 : (w3.alloc (entRow yb yk yv ym yz yo)).frozen? ⟨w3.heap.size, 5, none⟩ = false := e_free hg4 5
              have k3 := heap_alloc_new w3 (entRow yb yk yv m tz to)
              have b5 := b3.alloc b3.size (entRow yb yk yv m tz to)
              clear hg4
              go_wp2_with (first
                | ((with_reducible refine Plan.load_lit 28 (.tmp 16) w3.heap.size ?_ k3 Try.underlying28 ?_ ?_ ?_); (· rfl); (· rfl); (· exact entry_info); simp only [Act.put, List.setIfInBounds_toArray, List.set_cons_zero, List.set_cons_succ])
                | (go_at_call 60; ((with_reducible refine (HE.out _).mono ?_); rintro e9 w6 ⟨rfl, hb6⟩; have k6 := e_on hb6 k3 (e_lt k3); have b6 := b5.trans (hb6.mono b5.size)))
                | ((with_reducible refine Plan.load_lit 28 (.tmp 16) w3.heap.size ?_ k6 Try.underlying28 ?_ ?_ ?_); (· rfl); (· rfl); (· exact entry_info); simp only [Act.put, List.setIfInBounds_toArray, List.set_cons_zero, List.set_cons_succ])
                | (go_at_call 61; ((with_reducible refine (HW.out _ b6).mono ?_); rintro e9 w7 ⟨a7, n7, c7, rfl, hl7, hb7⟩; have b7 := b6.trans (hb7.mono b6.size))))
              go_ret2
              exact ⟨_, _, _, by rw [HM.out]; rfl, by rw [HN.out HM.out]; exact HEND.out _ b6, b6⟩
            · have h4 := hoi.1 hoo
              have HM : RowKit.Hid (M = true) := Lib.hid (HMV.out.2 ⟨by trivial, by trivial, by trivial, h4⟩)
              rw [hoo] at HE
              clear hoo hoi HNO HMV h4
              go_enter Try.func43, Try.ntmps43
              generalize hw0 : (w.alloc (placeRow yz yo)).alloc (placeRow tz to) = w0 at *
              go_wp2_with (first
                | (go_at_call 56; ((with_reducible refine (HV.out _ hA).mono ?_); rintro e9 w1 ⟨rfl, hb1⟩; have hr1 := e_on hb1 hr0 (e_lt hr0); have hx1 := e_on hb1 hx0 (e_lt hx0); have b1 := hA.trans (hb1.mono hA.size)))
                | (go_at_call 58; ((with_reducible refine (HI.out _ b1).mono ?_); rintro e9 w2 ⟨rfl, hb2⟩; have hr2 := e_on hb2 hr1 (e_lt hr1); have hx2 := e_on hb2 hx1 (e_lt hx1); have b2 := b1.trans (hb2.mono b1.size); have hy2 := HY.out _ b2; obtain ⟨y0, y1, y2, y3, y4, y5⟩ := HY.out _ b2; obtain ⟨c0, c1⟩ := place_row hx2)))
              refine Plan.start (fun W => EntAt W x k ⟨yb, yk, yv, ym, yz, yo⟩ ∧ W.cell? ⟨w.heap.size, 0, none⟩ = some (.int .i64 yz) ∧ W.cell? ⟨w.heap.size, 1, none⟩ = some (.int .i64 yo)) [(0, true), (1, true), (2, true), (3, true), (4, true), (5, true), (6, true), (7, true), (8, true), (9, true), (10, true), (11, true), (12, true), (13, true), (14, true), (15, true), (16, true), (17, true), (18, true), (19, true)] (by kernel_rfl) (by kernel_rfl) (by kernel_rfl) (by kernel_rfl) ⟨hy2, c0, c1⟩ ?_
              simp only [List.map_cons, List.map_nil, List.getElem?_toArray, List.getElem?_cons_zero, List.getElem?_cons_succ]
              repeat (first | (refine Plan.take ?_ (by rfl) ?_ ?_; rotate_left; (· rintro w9 ⟨⟨u0, u1, u2, u3, u4, u5⟩, v0, v1⟩; go_simp; (try rw [if_neg (by omega)]); all_goals (with_reducible rfl)); simp only [Act.put, List.setIfInBounds_toArray, List.set_cons_zero, List.set_cons_succ]) | (refine Plan.pass (by rfl) ?_; simp only [Act.put, List.setIfInBounds_toArray, List.set_cons_zero, List.set_cons_succ]))
              refine Plan.ends ?_
              have b3 := b2.drew
              have hr3 : w2.drew.heap[w.heap.size + 1]? = some (placeRow tz to) := hr2
              obtain ⟨y0, y1, y2, y3, y4, y5⟩ := HY.out _ b3
              generalize w2.drew = w3 at *
              have hg4 := heap_alloc_new w3 (entRow yb yk yv ym yz yo)
              have b4 := b3.alloc b3.size (entRow yb yk yv ym yz yo)
              have hr4 := e_al hr3 (entRow yb yk yv ym yz yo)
              obtain ⟨d0, d1⟩ := place_row hr4
              obtain ⟨g0, g1, g2, g3, g4, g5⟩ := entry_row hg4
              have f3 : (w3.alloc (entRow yb yk yv ym yz yo)).frozen? ⟨w3.heap.size, 3, none⟩ = false := e_free hg4 3
              have f4 : (w3.alloc (entRow yb yk yv ym yz yo)).frozen? ⟨w3.heap.size, 4, none⟩ = false := e_free hg4 4
              have f5 : (w3.alloc (entRow yb yk yv ym yz yo)).frozen? ⟨w3.heap.size, 5, none⟩ = false := e_free hg4 5
              have k3 := heap_alloc_new w3 (entRow yb yk yv m tz to)
              have b5 := b3.alloc b3.size (entRow yb yk yv m tz to)
              clear hg4
              go_wp2_with (first
                | ((with_reducible refine Plan.load_lit 28 (.tmp 16) w3.heap.size ?_ k3 Try.underlying28 ?_ ?_ ?_); (· rfl); (· rfl); (· exact entry_info); simp only [Act.put, List.setIfInBounds_toArray, List.set_cons_zero, List.set_cons_succ])
                | (go_at_call 60; ((with_reducible refine (HE.out _).mono ?_); rintro e9 w6 ⟨rfl, hb6⟩; have k6 := e_on hb6 k3 (e_lt k3); have b6 := b5.trans (hb6.mono b5.size)))
                | ((with_reducible refine Plan.load_lit 28 (.tmp 16) w3.heap.size ?_ k6 Try.underlying28 ?_ ?_ ?_); (· rfl); (· rfl); (· exact entry_info); simp only [Act.put, List.setIfInBounds_toArray, List.set_cons_zero, List.set_cons_succ])
                | (go_at_call 61; ((with_reducible refine (HW.out _ b6).mono ?_); rintro e9 w7 ⟨a7, n7, c7, rfl, hl7, hb7⟩; have b7 := b6.trans (hb7.mono b6.size))))
              go_ret2
              exact ⟨_, _, _, by rw [HM.out]; rfl, by rw [HYY.out HM.out]; exact hl7.mono (fun b _ h9 => by rcases h9 with h9 | h9; (· exact .inl h9.1); (· exact .inr (Nat.le_trans b6.size h9))), b7⟩
          · have t3 : (yo == fo) = false := by simpa using h3
            have t4 : decide (yo = fo) = false := by simpa using h3
            go_enter Try.func43, Try.ntmps43
            generalize hw0 : (w.alloc (placeRow yz fo)).alloc (placeRow tz to) = w0 at *
            go_wp2_with (first
              | (go_at_call 56; ((with_reducible refine (HV.out _ hA).mono ?_); rintro e9 w1 ⟨rfl, hb1⟩; have hr1 := e_on hb1 hr0 (e_lt hr0); have hx1 := e_on hb1 hx0 (e_lt hx0); have b1 := hA.trans (hb1.mono hA.size)))
              | (go_at_call 58; ((with_reducible refine (HI.out _ b1).mono ?_); rintro e9 w2 ⟨rfl, hb2⟩; have hr2 := e_on hb2 hr1 (e_lt hr1); have hx2 := e_on hb2 hx1 (e_lt hx1); have b2 := b1.trans (hb2.mono b1.size); have hy2 := HY.out _ b2; obtain ⟨y0, y1, y2, y3, y4, y5⟩ := HY.out _ b2; obtain ⟨c0, c1⟩ := place_row hx2)))
            refine Plan.start (fun W => EntAt W x k ⟨yb, yk, yv, ym, yz, yo⟩ ∧ W.cell? ⟨w.heap.size, 0, none⟩ = some (.int .i64 yz) ∧ W.cell? ⟨w.heap.size, 1, none⟩ = some (.int .i64 fo)) [(0, true), (1, true), (2, true), (3, true), (4, true), (5, true), (6, true), (7, true), (8, true), (9, true), (10, true), (11, true), (12, true), (13, true), (14, true), (15, true), (16, true), (17, true), (18, true), (19, true)] (by kernel_rfl) (by kernel_rfl) (by kernel_rfl) (by kernel_rfl) ⟨hy2, c0, c1⟩ ?_
            simp only [List.map_cons, List.map_nil, List.getElem?_toArray, List.getElem?_cons_zero, List.getElem?_cons_succ]
            repeat (first | (refine Plan.take ?_ (by rfl) ?_ ?_; rotate_left; (· rintro w9 ⟨⟨u0, u1, u2, u3, u4, u5⟩, v0, v1⟩; go_simp; (try rw [if_neg (by omega)]); all_goals (with_reducible rfl)); simp only [Act.put, List.setIfInBounds_toArray, List.set_cons_zero, List.set_cons_succ]) | (refine Plan.pass (by rfl) ?_; simp only [Act.put, List.setIfInBounds_toArray, List.set_cons_zero, List.set_cons_succ]))
            refine Plan.ends ?_
            have b3 := b2.drew
            clear y0 y1 y2 y3 y4 y5 c0 c1
            go_wp2_with fail
            go_ret2
            exact ⟨_, _, _, by rw [HNO.out (by omega)]; rfl, by rw [HN.out (HNO.out (by omega))]; exact HEND.out _ b3, b3⟩
        · have t3 : (yz == fz) = false := by simpa using h2
          have t4 : decide (yz = fz) = false := by simpa using h2
          go_enter Try.func43, Try.ntmps43
          generalize hw0 : (w.alloc (placeRow fz fo)).alloc (placeRow tz to) = w0 at *
          go_wp2_with (first
            | (go_at_call 56; ((with_reducible refine (HV.out _ hA).mono ?_); rintro e9 w1 ⟨rfl, hb1⟩; have hr1 := e_on hb1 hr0 (e_lt hr0); have hx1 := e_on hb1 hx0 (e_lt hx0); have b1 := hA.trans (hb1.mono hA.size)))
            | (go_at_call 58; ((with_reducible refine (HI.out _ b1).mono ?_); rintro e9 w2 ⟨rfl, hb2⟩; have hr2 := e_on hb2 hr1 (e_lt hr1); have hx2 := e_on hb2 hx1 (e_lt hx1); have b2 := b1.trans (hb2.mono b1.size); have hy2 := HY.out _ b2; obtain ⟨y0, y1, y2, y3, y4, y5⟩ := HY.out _ b2; obtain ⟨c0, c1⟩ := place_row hx2)))
          refine Plan.start (fun W => EntAt W x k ⟨yb, yk, yv, ym, yz, yo⟩ ∧ W.cell? ⟨w.heap.size, 0, none⟩ = some (.int .i64 fz) ∧ W.cell? ⟨w.heap.size, 1, none⟩ = some (.int .i64 fo)) [(0, true), (1, true), (2, true), (3, true), (4, true), (5, true), (6, true), (7, true), (8, true), (9, true), (10, true), (11, true), (12, true), (13, true), (14, true), (15, true), (16, true), (17, true), (18, true), (19, true)] (by kernel_rfl) (by kernel_rfl) (by kernel_rfl) (by kernel_rfl) ⟨hy2, c0, c1⟩ ?_
          simp only [List.map_cons, List.map_nil, List.getElem?_toArray, List.getElem?_cons_zero, List.getElem?_cons_succ]
          repeat (first | (refine Plan.take ?_ (by rfl) ?_ ?_; rotate_left; (· rintro w9 ⟨⟨u0, u1, u2, u3, u4, u5⟩, v0, v1⟩; go_simp; (try rw [if_neg (by omega)]); all_goals (with_reducible rfl)); simp only [Act.put, List.setIfInBounds_toArray, List.set_cons_zero, List.set_cons_succ]) | (refine Plan.pass (by rfl) ?_; simp only [Act.put, List.setIfInBounds_toArray, List.set_cons_zero, List.set_cons_succ]))
          refine Plan.ends ?_
          have b3 := b2.drew
          clear y0 y1 y2 y3 y4 y5 c0 c1
          go_wp2_with fail
          go_ret2
          exact ⟨_, _, _, by rw [HNO.out (by omega)]; rfl, by rw [HN.out (HNO.out (by omega))]; exact HEND.out _ b3, b3⟩
      · have t3 : (yv != v) = true := by simpa using h1
        go_enter Try.func43, Try.ntmps43
        generalize hw0 : (w.alloc (placeRow fz fo)).alloc (placeRow tz to) = w0 at *
        go_wp2_with (first
          | (go_at_call 56; ((with_reducible refine (HV.out _ hA).mono ?_); rintro e9 w1 ⟨rfl, hb1⟩; have hr1 := e_on hb1 hr0 (e_lt hr0); have hx1 := e_on hb1 hx0 (e_lt hx0); have b1 := hA.trans (hb1.mono hA.size)))
          | (go_at_call 58; ((with_reducible refine (HI.out _ b1).mono ?_); rintro e9 w2 ⟨rfl, hb2⟩; have hr2 := e_on hb2 hr1 (e_lt hr1); have hx2 := e_on hb2 hx1 (e_lt hx1); have b2 := b1.trans (hb2.mono b1.size); have hy2 := HY.out _ b2; obtain ⟨y0, y1, y2, y3, y4, y5⟩ := HY.out _ b2; obtain ⟨c0, c1⟩ := place_row hx2)))
        refine Plan.start (fun W => EntAt W x k ⟨yb, yk, yv, ym, yz, yo⟩ ∧ W.cell? ⟨w.heap.size, 0, none⟩ = some (.int .i64 fz) ∧ W.cell? ⟨w.heap.size, 1, none⟩ = some (.int .i64 fo)) [(0, true), (1, true), (2, true), (3, true), (4, true), (5, true), (6, true), (7, true), (8, true), (9, true), (10, true), (11, true), (12, true), (13, true), (14, true), (15, true), (16, true), (17, true), (18, true), (19, true)] (by kernel_rfl) (by kernel_rfl) (by kernel_rfl) (by kernel_rfl) ⟨hy2, c0, c1⟩ ?_
        simp only [List.map_cons, List.map_nil, List.getElem?_toArray, List.getElem?_cons_zero, List.getElem?_cons_succ]
        repeat (first | (refine Plan.take ?_ (by rfl) ?_ ?_; rotate_left; (· rintro w9 ⟨⟨u0, u1, u2, u3, u4, u5⟩, v0, v1⟩; go_simp; (try rw [if_neg (by omega)]); all_goals (with_reducible rfl)); simp only [Act.put, List.setIfInBounds_toArray, List.set_cons_zero, List.set_cons_succ]) | (refine Plan.pass (by rfl) ?_; simp only [Act.put, List.setIfInBounds_toArray, List.set_cons_zero, List.set_cons_succ]))
        refine Plan.ends ?_
        have b3 := b2.drew
        clear y0 y1 y2 y3 y4 y5 c0 c1
        go_wp2_with fail
        go_ret2
        exact ⟨_, _, _, by rw [HNO.out (by omega)]; rfl, by rw [HN.out (HNO.out (by omega))]; exact HEND.out _ b3, b3⟩
end Go.Proofs.Ytljobnfilnbefaa.Ents

/- The walk of the program's Drop; the program keeps what is asked of a shard. -/
namespace Go.Proofs.Ytljobnfilnbefaa.Ents
open Go.RowKit Plan EntMath
set_option maxHeartbeats 4000000 in
set_option maxRecDepth 20000 in
theorem drop_any (F : Nat → Prop) (L : List Ent) (cut : Int) (a : Option Addr) (len cap : Nat) (w : World) (hl : EList w F a len cap L) (hm : len ≤ 900000) :
    Calls Try.prog 39 #[.slice a len cap, .int .i64 cut] w (DropPost w F (stayL L cut) (goneL L cut)) := by
  have hlen := hl.length
  have hv := fun W (h : Below w.heap.size w W) => valid_any _ L a len cap W (hl.low.on (Same.low h))
  have hat := fun W (h : Below w.heap.size w W) i (hi : i < len) => (hl.low.on (Same.low h)).ent i hi
  have HV := Lib.hid hv
  have HAT := Lib.hid hat
  clear hv hat hl
  have hw := Below.refl w.heap.size w
  cases hva : validB L
  · rw [show stayL L cut = [] from by unfold stayL; rw [hva]; rfl, show goneL L cut = [] from by unfold goneL; rw [hva]; rfl]
    rw [hva] at HV
    clear hva
    go_enter Try.func39, Try.ntmps39
    go_wp2_with (first
      | (go_at_call 56; ((with_reducible refine (HV.out _ hw).mono ?_); rintro e9 w1 ⟨rfl, hb1⟩)))
    go_ret2
    exact ⟨_, _, _, _, _, _, rfl, EList.nil _ _, EList.nil _ _, hb1⟩
  · rw [show stayL L cut = L.filter (fun e => !gone cut e) from by unfold stayL; rw [if_pos hva], show goneL L cut = L.filter (gone cut) from by unfold goneL; rw [if_pos hva]]
    rw [hva] at HV
    clear hva
    have hend1 : ∀ W v, W.ownsRow w.heap.size 28 6 v ((L.take len).filter (fun e => !gone cut e)).length (ents ((L.take len).filter (fun e => !gone cut e))) → ∃ a n c, v = .slice a n c ∧ EList W (Plus F w.heap.size) a n c (L.filter (fun e => !gone cut e)) := fun W v h => by
      obtain ⟨-, a9, c9, h9, hl9⟩ := owns_ents (F := Plus F w.heap.size) h (fun b hb => .inr (h.lt b hb).1)
      rw [List.take_of_length_le (by omega)] at h9 hl9
      exact ⟨_, _, _, h9, hl9⟩
    have hend2 : ∀ W v, W.ownsRow w.heap.size 28 6 v ((L.take len).filter (gone cut)).length (ents ((L.take len).filter (gone cut))) → ∃ a n c, v = .slice a n c ∧ EList W (Plus F w.heap.size) a n c (L.filter (gone cut)) := fun W v h => by
      obtain ⟨-, a9, c9, h9, hl9⟩ := owns_ents (F := Plus F w.heap.size) h (fun b hb => .inr (h.lt b hb).1)
      rw [List.take_of_length_le (by omega)] at h9 hl9
      exact ⟨_, _, _, h9, hl9⟩
    have HE1 := Lib.hid hend1
    have HE2 := Lib.hid hend2
    have HN1 := Lib.hid (fun j e (h : L[j]? = some e) => filter_next h (fun e => !gone cut e))
    have HN2 := Lib.hid (fun j e (h : L[j]? = some e) => filter_next h (gone cut))
    have hb0 : ∀ j, ((L.take j).filter (fun e => !gone cut e)).length ≤ 900000 := fun j => Nat.le_trans (List.length_filter_le _ _) (by rw [List.length_take]; omega)
    have hb1' : ∀ j, ((L.take j).filter (gone cut)).length ≤ 900000 := fun j => Nat.le_trans (List.length_filter_le _ _) (by rw [List.length_take]; omega)
    have HB0 := Lib.hid hb0
    have HB1 := Lib.hid hb1'
    clear hend1 hend2 hb0 hb1'
    have hs0 : ([] : List Ent) = (L.take 0).filter (fun e => !gone cut e) := by simp
    have hs1 : ([] : List Ent) = (L.take 0).filter (gone cut) := by simp
    have HS0 := Lib.hid hs0
    have HS1 := Lib.hid hs1
    clear hs0 hs1
    go_enter Try.func39, Try.ntmps39
    go_wp2_with (first
      | (go_at_call 56; ((with_reducible refine (HV.out _ hw).mono ?_); rintro e9 w1 ⟨rfl, hb1⟩)))
    go_loopw [6, 7, 15] (fun v u c wr => ∃ j : Nat, c = .int .i64 (j : Int) ∧ j ≤ len ∧ wr.ownsRow w.heap.size 28 6 v ((L.take j).filter (fun e => !gone cut e)).length (ents ((L.take j).filter (fun e => !gone cut e))) ∧ wr.ownsRow w.heap.size 28 6 u ((L.take j).filter (gone cut)).length (ents ((L.take j).filter (gone cut))) ∧ Apart v u ∧ Below w.heap.size w wr) (fun _ _ c _ => len - (intOf c).toNat)
    case atStart => exact ⟨0, rfl, by omega, (by rw [← HS0.out]; exact World.ownsRow_nil _ _ _ _), (by rw [← HS1.out]; exact World.ownsRow_nil _ _ _ _), (fun b h9 _ => absurd h9 (by simp [Value.ownBlock])), hb1⟩
    case round =>
      obtain ⟨j, rfl, hj, hv, hu, hap, hb⟩ := hrel
      by_cases hlt : j < len
      · obtain ⟨x, e, rfl, he, hat⟩ := HAT.out wr hb j hlt
        have hjI : (j : Int) < (len : Int) := by omega
        have N1 := HN1.out j e he
        have N2 := HN2.out j e he
        have B0 := HB0.out j
        have B1 := HB1.out j
        generalize (L.take j).filter (fun e => !gone cut e) = S at *
        generalize (L.take j).filter (gone cut) = G at *
        have hxb := hat.lt
        obtain ⟨eb, ek, ev, em, ez, eo⟩ := e
        have hgc : gone cut ⟨eb, ek, ev, em, ez, eo⟩ = (decide (ek = 2) && decide (ev < cut)) := rfl
        rw [hgc] at N1 N2
        obtain ⟨c0, c1, c2, c3, c4, c5⟩ := hat
        try simp only at c0 c1 c2 c3 c4 c5
        have q0 := hb.alloc hb.size (entRow eb ek ev em ez eo)
        have q1 := q0.alloc q0.size (entRow eb ek ev em ez eo)
        have hbx := ((Below.refl wr.heap.size wr).alloc (Nat.le_refl _) (entRow eb ek ev em ez eo)).alloc (by simp only [World.size_alloc]; omega) (entRow eb ek ev em ez eo)
        have hv1 := e_owns_on hv hbx
        have hu1 := e_owns_on hu hbx
        have hnew : ((wr.alloc (entRow eb ek ev em ez eo)).alloc (entRow eb ek ev em ez eo)).heap[wr.heap.size + 1]? = some (entRow eb ek ev em ez eo) := heap_second wr _ _
        have hszz : ((wr.alloc (entRow eb ek ev em ez eo)).alloc (entRow eb ek ev em ez eo)).heap.size = wr.heap.size + 1 + 1 := by simp only [World.size_alloc]
        obtain ⟨d0, d1, d2, d3, d4, d5⟩ := entry_row (heap_alloc_new wr (entRow eb ek ev em ez eo))
        clear he hgc
        by_cases hg : ek = 2 ∧ ev < cut
        · have t1 : (ek == 2) = true := by simpa using hg.1
          have t2 : decide (ev < cut) = true := by simpa using hg.2
          have t3 := hg.2
          rw [decide_eq_true hg.1, t2] at N1 N2
          have HN1' := Lib.hid N1
          have HN2' := Lib.hid N2
          clear N1 N2 hg
          go_wp2_with (first
            | (at_builtin; refine append_ent rfl (.tmp 28) (.tmp 30) rfl w.heap.size _ _ G rfl hu1 (wr.heap.size + 1) ⟨eb, ek, ev, em, ez, eo⟩ rfl hnew B1 q1.size ?_; intro g9 k9 w9 hown9 hgrow9 hat9))
          have b9 := q1.grown hgrow9 q1.size (fun z9 h9 => (hu.lt z9 h9).1)
          have hv9 := owns_apart hv1 hap hgrow9
          have hap9 := fun n' c' => apart_next (n' := n') (c' := c') hv1 hap hat9 (Nat.le_refl _)
          clear hgrow9 hat9
          rw [show S ++ (if (!(true && true)) = true then [(⟨eb, ek, ev, em, ez, eo⟩ : Ent)] else []) = S from List.append_nil _] at HN1'
          go_roundw
          case rel => exact ⟨j + 1, by go_num, by omega, by rw [HN1'.out]; exact hv9, by rw [HN2'.out, List.length_append]; exact hown9, hap9 _ _, b9⟩
          case measure => simp [intOf]; omega
        · have hgf : (decide (ek = 2) && decide (ev < cut)) = false := by
            cases h2 : (decide (ek = 2) && decide (ev < cut))
            · rfl
            · rw [Bool.and_eq_true, decide_eq_true_eq, decide_eq_true_eq] at h2
              exact absurd h2 hg
          rw [hgf] at N1 N2
          have HN1' := Lib.hid N1
          have HN2' := Lib.hid N2
          clear N1 N2 hgf
          have hor : ((ek == 2) = true ∧ decide (ev < cut) = false) ∨ (ek == 2) = false := by
            by_cases h2 : ek = 2
            · exact .inl ⟨by simpa using h2, by have : ¬ ev < cut := fun h => hg ⟨h2, h⟩
                                                simpa using this⟩
            · exact .inr (by simpa using h2)
          clear hg
          rw [show G ++ (if (false : Bool) = true then [(⟨eb, ek, ev, em, ez, eo⟩ : Ent)] else []) = G from List.append_nil _] at HN2'
          rcases hor with ⟨t1, t2⟩ | t1
          all_goals
            go_wp2_with (first
              | (at_builtin; refine append_ent rfl (.tmp 32) (.tmp 34) rfl w.heap.size _ _ S rfl hv1 (wr.heap.size + 1) ⟨eb, ek, ev, em, ez, eo⟩ rfl hnew B0 q1.size ?_; intro g9 k9 w9 hown9 hgrow9 hat9))
            have b9 := q1.grown hgrow9 q1.size (fun z9 h9 => (hv.lt z9 h9).1)
            have hu9 := owns_apart hu1 hap.symm hgrow9
            have hap9 := fun n' c' => (apart_next (n' := n') (c' := c') hu1 hap.symm hat9 (Nat.le_refl _)).symm
            clear hgrow9 hat9
            go_roundw
            case rel => exact ⟨j + 1, by go_num, by omega, by rw [HN1'.out, List.length_append]; exact hown9, by rw [HN2'.out]; exact hu9, hap9 _ _, b9⟩
            case measure => simp [intOf]; omega
      · obtain rfl : j = len := by omega
        obtain ⟨a1, n1, k1, rfl, l1⟩ := HE1.out _ _ hv
        obtain ⟨a2, n2, k2, rfl, l2⟩ := HE2.out _ _ hu
        clear hv hu hap
        go_wp2_with fail
        go_ret2
        exact ⟨_, _, _, _, _, _, rfl, l1, l2, hb⟩
theorem shardOk : ShardOk where
  valid := fun F L a len cap w hl _ => valid_any F L a len cap w hl
  find := fun F L b a len cap w hl hm => find_any F L b a len cap w hl (by omega)
  install := fun F L e a len cap w hF hl hm => install_any F L e a len cap w hF hl (by omega)
  relocate := fun F L b v fz fo tz to m a len cap w _ hl hm => relocate_any F L b v fz fo tz to m a len cap w hl (by omega)
  drop := fun F L cut a len cap w _ hl hm => drop_any F L cut a len cap w hl (by omega)
end Go.Proofs.Ytljobnfilnbefaa.Ents
