/- The walk of the statement on summaries of sectors that are made of numbers. -/
import Derived.Test.YtjihkcjoaefppaaSumSays
import Derived.Test.YtjihkcjoaefppaaSumMore
import Derived.Test.YtjihkcjoaefppaaMakeStrs
import Derived.Test.YtjihkcjoaefppaaMakeFlipBad
namespace Go.Proofs.Ytjihkcjoaefppaa
open Go.RowKit Plan

theorem awake04_any (w : World) : Calls Try.prog 6 #[] w fun e w' => e = .returned (.bool true) ∧ Below w.heap.size w w' := sumAwake make_says verify_says w
theorem sumMade_light (a : Option Addr) (len cap : Nat) (many at' bit : Int) (w : World) (h : 300 < len) :
    Calls Try.prog 4 #[.slice a len cap, .int .i64 many, .int .i64 at', .int .i64 bit] w fun e w' => e = .returned (.bool true) ∧ Below w.heap.size w w' := by
  have hl := light_any a len cap
  rw [show decide ((len : Int) ≤ 300) = false by simp; omega] at hl
  have HL := Lib.hid hl
  have AW := Lib.hid awake04_any
  clear hl h
  go_enter Try.func4, Try.ntmps4
  go_wp2_with (first
    | (go_at_call 11; ((with_reducible refine (HL.out _).mono ?_); rintro e w1 ⟨rfl, rfl⟩))
    | (go_at_call 6; ((with_reducible refine (AW.out _).mono ?_); rintro e w9 ⟨rfl, hb9⟩)))
  go_ret
  exact ⟨rfl, hb9⟩
/-- a record that is made has a good sector -/
theorem made_good (zs : List Int) (k : Nat) (blocks version : Int) (h1 : 1 ≤ blocks) (h2 : blocks ≤ 4294967296) (h3 : 0 ≤ version) (h4 : version ≤ 1099511627776) : SumMath.secE (RecMath.encL (mk (madeK zs k) (nxt zs k blocks) version 0 (madeP zs k))) = 0 := by
  refine SumMath.sec_enc (made_ok zs k blocks version h1 h2 h3 h4) ?_
  show madeK zs k = 1 ∨ madeK zs k = 2
  unfold madeK
  split
  · exact .inr rfl
  · exact .inl rfl
theorem own_empty (w : World) (o : Obj) : ((w.alloc o).alloc (.cells #[] 9)).ownsRow (w.heap.size + 1) 9 1 (.slice (some ⟨w.heap.size + 1, 0, none⟩) 0 0) 0 [] := by
  have := World.ownsRow_made (base := w.heap.size + 1) (e := 9) (size := 1) (w.alloc o) #[] 0 (by simp) (by unfold maxLen; decide) rfl
  rwa [World.size_alloc] at this
theorem good_size {s : ByteArray} (h : SumMath.secE s.data.toList = 0) : s.size = 40 := by
  rw [← size_list]
  exact SumMath.sec_len (SumMath.sec_ok h).1
set_option maxHeartbeats 2000000 in
set_option maxRecDepth 20000 in
theorem sumMade_go (a : Option Addr) (len cap : Nat) (z : List Int) (many at' bit : Int) (w : World) (hrow : IsRow .i64 w a len cap z) (h : len ≤ 300) :
    Calls Try.prog 4 #[.slice a len cap, .int .i64 many, .int .i64 at', .int .i64 bit] w fun e w' => e = .returned (.bool true) ∧ Below w.heap.size w w' := by
  have hl := light_any a len cap
  rw [show decide ((len : Int) ≤ 300) = true by simp; omega] at hl
  have hr := roll_any a len cap z w hrow h
  have hz : (z.take len).length ≤ 100000 := by rw [List.length_take]; omega
  generalize z.take len = zs at hr hz
  have hmod := mod_any many 66 (by decide) (by decide)
  obtain ⟨M, hM1, hM2⟩ : ∃ M : Nat, many % 66 = (M : Int) ∧ M < 66 := ⟨(many % 66).toNat, by omega, by omega⟩
  rw [hM1] at hmod
  obtain ⟨i0, hi0, hz0, hz1, hz2⟩ := info_parts str_info
  have hn : ∀ W g k, Dice W w.heap.size g zs k → Calls Try.prog 16 #[.pointer (some ⟨g, 0, none⟩), .int .i64 900] W (NextPost W w.heap.size g zs k 900) := fun W g k h => next_any W _ g zs k 900 h hz (by decide) (by decide)
  have hm : ∀ W g k j, Dice W w.heap.size g zs k → Calls Try.prog 15 #[.pointer (some ⟨g, 0, none⟩), .int .i64 9, .int .i64 (nxt zs j 900)] W (MadePost W w.heap.size g zs k 9 (nxt zs j 900)) := fun W g k j h => made_any W _ g zs k 9 _ h hz (by decide) (by decide)
  have HL := Lib.hid hl
  have HR := Lib.hid hr
  have HN := Lib.hid hn
  have HM := Lib.hid hm
  have HD := Lib.hid hmod
  have AW := Lib.hid awake04_any
  clear hl hr hn hm hmod hrow h
  go_enter Try.func4, Try.ntmps4
  go_wp2_with (first
    | (go_at_call 11; ((with_reducible refine (HL.out _).mono ?_); rintro e w1 ⟨rfl, rfl⟩))
    | (go_at_call 12; ((with_reducible refine HR.out.mono ?_); rintro e w1 ⟨g, rfl, hd1, hb1⟩))
    | (go_at_call 13; ((with_reducible refine (HD.out _).mono ?_); rintro e w2 ⟨rfl, rfl⟩)))
  have hgw := dice_base hd1
  go_loopw [10, 11] (fun v c wr => ∃ (j kk : Nat) (L : List ByteArray), c = .int .i64 j ∧ j + L.length = M ∧ Stk wr w.heap.size g zs kk v L ∧ (∀ s ∈ L, SumMath.secE s.data.toList = 0) ∧ Below w.heap.size w wr) (fun _ c _ => (intOf c).toNat)
  case atStart => exact ⟨M, 0, [], rfl, rfl, Stk.nil hd1, (by simp), hb1⟩
  case round =>
    obtain ⟨j, kk, L, rfl, hjL, hst, hgood, hb⟩ := hrel
    cases j with
    | succ j =>
      have hjI : (0 : Int) < ((j + 1 : Nat) : Int) := by omega
      have hLM : L.length < 66 := by omega
      have hsec := made_good zs (stp zs kk) 9 (nxt zs kk 900) (by decide) (by decide) (nxt_range zs kk 900 (by decide)).1 (by have := (nxt_range zs kk 900 (by decide)).2; omega)
      have hS := sector_made (madeK zs (stp zs kk)) (nxt zs (stp zs kk) 9) (nxt zs kk 900) 0 (madeP zs (stp zs kk))
      have hN1 := HN.out wr g kk hst.dice
      have hR1 := fun W hW => HM.out W g (stp zs kk) kk hW
      unfold MadePost at hR1
      generalize madeK zs (stp zs kk) = K at hsec hS hR1
      generalize nxt zs (stp zs kk) 9 = b at hsec hS hR1
      generalize madeP zs (stp zs kk) = p at hsec hS hR1
      generalize hV : nxt zs kk 900 = V at hsec hS hR1
      rw [← toList_mk (RecMath.encL (mk K b V 0 p))] at hsec
      generalize (⟨(RecMath.encL (mk K b V 0 p)).toArray⟩ : ByteArray) = S at hsec hS
      unfold NextPost at hN1
      rw [hV] at hN1
      have N1 := Lib.hid hN1
      have R1 := Lib.hid hR1
      have HS := Lib.hid hS
      clear hN1 hR1 hS hV
      go_wp2_with (first
        | (go_at_call 16; ((with_reducible refine N1.out.mono ?_); rintro e w3 ⟨rfl, hd3, hg3, hs3⟩; have st3 := hst.made hd3 hg3))
        | (go_at_call 15; ((with_reducible refine (R1.out _ hd3).mono ?_); rintro e w4 ⟨rfl, hd4, hg4⟩; have st4 := st3.made hd4 hg4))
        | (go_at_call 14; ((with_reducible refine (HS.out _).mono ?_); rintro e w5 ⟨rfl, hb5⟩; have st5 := (st4.on hb5).al (.cells #[.string S] 9)))
        | (at_builtin; refine wpList_append_lies _ rfl _ _ 22 rfl (g + 1) 9 i0 (.string ByteArray.empty) 1 16 Try.underlying22 hi0 hz0 hz1 hz2 rfl (by decide) _ L.length (strs L) (by rfl) st5.own ⟨w5.heap.size, 0, none⟩ 1 1 [.string S] rfl rfl (World.news_of_block (heap_alloc_new w5 (.cells #[.string S] 9))) (by simp [Value.oneCell']) (by decide) (by unfold maxLen; omega) (by omega) (by have := dice_lt st5.dice; omega) _ rfl ?_; intro g6 c6 w6 hown6 hgrow6 hat6 hlt6))
      go_roundw
      case rel =>
        have b4 := (hb.grown hg3 hb.size (fun k hk => by cases hk; exact hgw)).grown hg4 (by have := hb.size; have := hg3.size; omega) (fun k hk => by cases hk; exact hgw)
        have b5 := (b4.trans (hb5.mono b4.size)).alloc (by have := b4.size; have := hb5.size; omega) (.cells #[.string S] 9)
        refine ⟨j, _, L ++ [S], rfl, by simp; omega, st5.app hown6 hgrow6, fun s hs => ?_, below_grow b5 st5.own (by omega) b5.size hgrow6⟩
        rcases List.mem_append.1 hs with hs | hs
        · exact hgood s hs
        · rw [List.mem_singleton.1 hs]; exact hsec
      case measure => simp [intOf]
    | zero =>
      obtain rfl : L.length = M := by omega
      have hLM : L.length < 66 := hM2
      clear hjL
      obtain ⟨-, a2, c2, rfl, hS⟩ := owns_strs hst.own (fun s hs => by rw [good_size (hgood s hs)]; unfold maxLen; omega)
      have hgX : ∀ s ∈ bytesOf L, SumMath.secE s = 0 := by
        intro s hs
        obtain ⟨t, ht, rfl⟩ := List.mem_map.1 hs
        exact hgood t ht
      have hXl : (bytesOf L).length = L.length := by simp [bytesOf]
      have hm := fun W (h : Below wr.heap.size wr W) => make_says a2 L.length c2 L W (hS.on h (Nat.le_refl _))
      have hrm := fun W (h : Below wr.heap.size wr W) => refMake_any a2 L.length c2 L W (hS.on h (Nat.le_refl _))
      by_cases hE : SumMath.makeE (bytesOf L) = 0
      · obtain ⟨hL0, hL64, -⟩ := SumMath.make_lens hE
        rw [hXl] at hL0 hL64
        obtain ⟨q, hq1, hq2⟩ : ∃ q : Nat, at' % (L.length : Int) = (q : Int) ∧ q < L.length := ⟨(at' % (L.length : Int)).toNat, by have := Int.emod_nonneg at' (b := (L.length : Int)) (by omega); omega, by have := Int.emod_lt_of_pos at' (b := (L.length : Int)) (by omega); have := Int.emod_nonneg at' (b := (L.length : Int)) (by omega); omega⟩
        have hmod := mod_any at' (L.length : Int) (by omega) (by omega)
        rw [hq1] at hmod
        have hsq := hgood L[q] (List.getElem_mem hq2)
        have hfl := flip_any L[q] at' bit (by rw [good_size hsq]; decide) (by rw [good_size hsq]; decide)
        have hbad : SumMath.secE (flipL L[q].data.toList at' bit) ≠ 0 := by
          refine SumMath.sec_bad ?_
          have he := RecMath.enc_dec (SumMath.sec_ok hsq).1
          rw [← he.2.1, flip_bad _ he.1]
          decide
        rw [← toList_mk (flipL L[q].data.toList at' bit)] at hbad
        have hfz : (⟨(flipL L[q].data.toList at' bit).toArray⟩ : ByteArray).size ≤ maxLen := by
          rw [size_bytes, flipL, List.length_modify, size_list, good_size hsq]
          unfold maxLen; omega
        generalize (⟨(flipL L[q].data.toList at' bit).toArray⟩ : ByteArray) = F at hfl hbad hfz
        have hv1 := fits_self hE
        have hv2 : SumMath.fits (SumMath.makeR (bytesOf L)) (bytesOf (L.take q)) = false := SumMath.fits_len hE (by rw [hXl]; simp [bytesOf]; omega)
        have hv3 : SumMath.fits (SumMath.makeR (bytesOf L)) (bytesOf (L.set q F)) = false := SumMath.fits_bad F.data.toList (List.mem_map.2 ⟨F, List.mem_of_getElem? (List.getElem?_set_self hq2), rfl⟩) hbad
        obtain ⟨x2, rfl, -⟩ := hS.some hL0
        have hqc : L.length ≤ c2 ∧ c2 ≤ maxLen := by
          rcases hS with ⟨h, _⟩ | ⟨_, _, h1, h2, _⟩
          · cases h
          · exact ⟨h1, h2⟩
        have hqcI : (q : Int) ≤ (c2 : Int) := by omega
        have hq0 : (0 : Int) ≤ (q : Int) := by omega
        have hqI : (q : Int) < (L.length : Int) := by omega
        have hgz : ∀ s ∈ L.set q F, s.size ≤ maxLen := fun s hs => by
          rcases List.mem_or_eq_of_mem_set hs with hs | rfl
          · rw [good_size (hgood s hs)]; unfold maxLen; omega
          · exact hfz
        have hLq : (strs L)[q]? = some (.string L[q]) := strs_get (List.getElem?_eq_getElem hq2)
        generalize SumMath.makeR (bytesOf L) = r at hm hrm hv1 hv2 hv3
        rw [hE] at hm hrm
        have hre : ∀ l, SumMath.fits ⟨r.kind, r.block, r.version, r.move, (⟨r.payload.toArray⟩ : ByteArray).data.toList⟩ l = SumMath.fits r l := fun l => by rw [toList_mk]
        have V1 := fun W (h : IsStrs W (some x2) L.length c2 L) => verify_says r.kind r.block r.version r.move ⟨r.payload.toArray⟩ (some x2) L.length c2 L W h
        have V2 := fun W (h : IsStrs W (some x2) q c2 (L.take q)) => verify_says r.kind r.block r.version r.move ⟨r.payload.toArray⟩ (some x2) q c2 (L.take q) W h
        have V3 := fun W g7 c7 (h : IsStrs W (some ⟨g7, 0, none⟩) L.length c7 (L.set q F)) => verify_says r.kind r.block r.version r.move ⟨r.payload.toArray⟩ (some ⟨g7, 0, none⟩) L.length c7 (L.set q F) W h
        rw [hre, hv1] at V1
        rw [hre, hv2] at V2
        rw [hre, hv3] at V3
        clear hre hv1 hv2 hv3
        simp only [recV] at hm hrm
        generalize r.kind = k1 at hm hrm V1 V2 V3
        generalize r.block = b1 at hm hrm V1 V2 V3
        generalize r.version = v1 at hm hrm V1 V2 V3
        generalize r.move = m1 at hm hrm V1 V2 V3
        generalize (⟨r.payload.toArray⟩ : ByteArray) = p1 at hm hrm V1 V2 V3
        generalize hsN : L[q] = sq at hfl hLq
        have H1 := Lib.hid hm
        have H2 := Lib.hid hrm
        have W1 := Lib.hid V1
        have W2 := Lib.hid V2
        have W3 := Lib.hid V3
        have HF := Lib.hid hfl
        have HQ := Lib.hid hmod
        have HS := Lib.hid hS
        have HG := Lib.hid hgz
        have zb := hb.size
        clear hm hrm V1 V2 V3 hfl hmod hS hgz hgX hgood hst hsq hbad hfz hE hsN
        go_wp2_with (first
          | (go_at_call 7; ((with_reducible refine (H1.out _ (Below.refl _ _)).mono ?_); rintro e w1 ⟨rfl, hb1⟩; have hx1 := heap_alloc_new w1 (.cells #[.int .i64 k1, .int .i64 b1, .int .i64 v1, .int .i64 m1, .string p1] 24); have B1 := hb1.alloc hb1.size (.cells #[.int .i64 k1, .int .i64 b1, .int .i64 v1, .int .i64 m1, .string p1] 24)))
          | (go_at_call 8; ((with_reducible refine (H2.out _ B1).mono ?_); rintro e w2 ⟨rfl, hb2⟩; have hx2 := row_al (row_on hb2 hx1 (row5 hx1).1) (.cells #[.int .i64 k1, .int .i64 b1, .int .i64 v1, .int .i64 m1, .string p1] 24); have hw2 := heap_alloc_new w2 (.cells #[.int .i64 k1, .int .i64 b1, .int .i64 v1, .int .i64 m1, .string p1] 24); obtain ⟨t1, d0, d1, d2, d3, d4⟩ := row5 hx2; obtain ⟨t2, e0, e1, e2, e3, e4⟩ := row5 hw2; have B2 := (B1.trans (hb2.mono B1.size)).alloc (by have := hb2.size; have := B1.size; omega) (.cells #[.int .i64 k1, .int .i64 b1, .int .i64 v1, .int .i64 m1, .string p1] 24); have B3 := B2.alloc B2.size (.cells #[] 9); have O3 := own_empty w2 (.cells #[.int .i64 k1, .int .i64 b1, .int .i64 v1, .int .i64 m1, .string p1] 24)))
          | (at_builtin; refine wpList_append_lies _ rfl _ _ 22 rfl (w2.heap.size + 1) 9 i0 (.string ByteArray.empty) 1 16 Try.underlying22 hi0 hz0 hz1 hz2 rfl (by decide) _ 0 [] (by rfl) O3 x2 L.length c2 (strs L) rfl (by rw [strs_length, Nat.mul_one]) (strs_news (HS.out.on B3 (Nat.le_refl _))) (strs_cells L) hL0 (by unfold maxLen; omega) (by omega) (by simp) _ rfl ?_; intro g7 c7 w7 hown7 hgrow7 hat7 hlt7; have O7 := own_copy hown7; have K7 := own_cell O7 hLq)
          | (go_at_call 13; ((with_reducible refine (HQ.out _).mono ?_); rintro e w8 ⟨rfl, rfl⟩))
          | (go_at_call 17; ((with_reducible refine (HF.out _).mono ?_); rintro e w8 ⟨rfl, hb8⟩; have O8 := owns_on O7 hb8; have K8 := own_cell O8 hLq; have F8 := own_free O8 q)))
        have gH : w2.heap.size + 1 ≤ g7 := by
          rcases hat7 with h | h
          · have h : some (w2.heap.size + 1) = some g7 := h
            exact Nat.le_of_eq (Option.some.inj h)
          · rw [h]; simp
        have b3 : Below (w2.heap.size + 1) (w2.alloc (.cells #[.int .i64 k1, .int .i64 b1, .int .i64 v1, .int .i64 m1, .string p1] 24)) _ := (Below.refl _ _).alloc (by simp) (.cells #[] 9)
        have b7 := b3.grown hgrow7 (by simp) (fun k hk => Nat.le_of_eq (Option.some.inj (show some (w2.heap.size + 1) = some k from hk)))
        have b8 := b7.trans (hb8.mono (by have := b7.size; simp at this; omega))
        have b9 := b8.setCell (show w2.heap.size + 1 ≤ (⟨g7, q, none⟩ : Addr).block from gH) (.string F)
        have hw12 : w1.heap.size < w2.heap.size + 1 := by have := (row5 hx2).1; simpa using this
        have hx9 := row_on b9 hx2 hw12
        have B9 := B2.trans (b9.mono (by have := B2.size; simpa using this))
        have O9 := owns_set O8 q F
        have hS9 := HS.out.on B9 (Nat.le_refl _)
        have hQ9 := hS9.take q (by omega)
        obtain ⟨-, a9, c9, h9, hT9⟩ := owns_strs O9 HG.out
        cases h9
        clear hx1 hx2 hw2 t1 d0 d1 d2 d3 d4 t2 e0 e1 e2 e3 e4 B1 B2 B3 O3 hown7 hgrow7 hat7 hlt7 O7 K7 O8 K8 F8 b3 b7 b8 b9 O9 hb8 hb1 hb2 H1 H2 HF HQ HS HG
        have wz := B9.size
        generalize w8.setCell ⟨g7, q, none⟩ (.string F) = W at hx9 B9 hS9 hQ9 hT9 wz ⊢
        obtain ⟨t1, d0, d1, d2, d3, d4⟩ := row5 hx9
        have BW := hb.trans (B9.mono zb)
        have S1 := Lib.hid hS9
        have S2 := Lib.hid hQ9
        have S3 := Lib.hid hT9
        clear hx9 hS9 hQ9 hT9 B9
        refine Plan.start (Held W.heap.size W) [(0, false), (1, true), (2, true), (3, true), (4, false), (5, true), (6, true), (7, true), (8, true), (9, true), (10, true), (11, false), (12, true), (13, true), (14, true), (15, true), (16, true), (17, false), (18, true), (19, true), (20, true)] (by kernel_rfl) (by kernel_rfl) (by kernel_rfl) (by kernel_rfl) held_same ?_
        simp only [List.map_cons, List.map_nil, List.getElem?_toArray, List.getElem?_cons_zero, List.getElem?_cons_succ]
        have hS0 : Held W.heap.size W W.drew := held_same
        refine Plan.call (by rfl) 6 _ ?_ (AW.out _) ?_
        · go_simp
        rintro e w14 ⟨rfl, hb14⟩
        have hSw4 := held_call (Nat.le_refl _) hS0 hb14
        refine ⟨_, rfl, hSw4, ?_⟩
        simp only [Act.put, List.setIfInBounds_toArray, List.set_cons_zero, List.set_cons_succ]
        repeat (first | (refine Plan.take ?_ (by rfl) ?_ ?_; rotate_left; (· rintro w9 ⟨hS9, -⟩; go_simp; (try rw [if_neg (by omega)]); all_goals (with_reducible rfl)); simp only [Act.put, List.setIfInBounds_toArray, List.set_cons_zero, List.set_cons_succ]) | (refine Plan.pass (by rfl) ?_; simp only [Act.put, List.setIfInBounds_toArray, List.set_cons_zero, List.set_cons_succ]))
        refine Plan.call (by rfl) 9 _ ?_ (W1.out _ (S1.out.on hSw4.2 (Nat.le_refl _))) ?_
        · go_simp
        rintro e w15 ⟨rfl, hb15⟩
        have hSw5 := held_call (Nat.le_refl _) hSw4 hb15
        refine ⟨_, rfl, hSw5, ?_⟩
        simp only [Act.put, List.setIfInBounds_toArray, List.set_cons_zero, List.set_cons_succ]
        repeat (first | (refine Plan.take ?_ (by rfl) ?_ ?_; rotate_left; (· rintro w9 ⟨hS9, -⟩; go_simp; (try rw [if_neg (by omega)]); all_goals (with_reducible rfl)); simp only [Act.put, List.setIfInBounds_toArray, List.set_cons_zero, List.set_cons_succ]) | (refine Plan.pass (by rfl) ?_; simp only [Act.put, List.setIfInBounds_toArray, List.set_cons_zero, List.set_cons_succ]))
        refine Plan.call (by rfl) 9 _ ?_ (W2.out _ (S2.out.on hSw5.2 (Nat.le_refl _))) ?_
        · go_simp
        rintro e w16 ⟨rfl, hb16⟩
        have hSw6 := held_call (Nat.le_refl _) hSw5 hb16
        refine ⟨_, rfl, hSw6, ?_⟩
        simp only [Act.put, List.setIfInBounds_toArray, List.set_cons_zero, List.set_cons_succ]
        repeat (first | (refine Plan.take ?_ (by rfl) ?_ ?_; rotate_left; (· rintro w9 ⟨hS9, -⟩; go_simp; (try rw [if_neg (by omega)]); all_goals (with_reducible rfl)); simp only [Act.put, List.setIfInBounds_toArray, List.set_cons_zero, List.set_cons_succ]) | (refine Plan.pass (by rfl) ?_; simp only [Act.put, List.setIfInBounds_toArray, List.set_cons_zero, List.set_cons_succ]))
        refine Plan.call (by rfl) 9 _ ?_ (W3.out _ _ _ (S3.out.on hSw6.2 (Nat.le_refl _))) ?_
        · go_simp
        rintro e w17 ⟨rfl, hb17⟩
        have hSw7 := held_call (Nat.le_refl _) hSw6 hb17
        refine ⟨_, rfl, hSw7, ?_⟩
        simp only [Act.put, List.setIfInBounds_toArray, List.set_cons_zero, List.set_cons_succ]
        repeat (first | (refine Plan.take ?_ (by rfl) ?_ ?_; rotate_left; (· rintro w9 ⟨hS9, -⟩; go_simp; (try rw [if_neg (by omega)]); all_goals (with_reducible rfl)); simp only [Act.put, List.setIfInBounds_toArray, List.set_cons_zero, List.set_cons_succ]) | (refine Plan.pass (by rfl) ?_; simp only [Act.put, List.setIfInBounds_toArray, List.set_cons_zero, List.set_cons_succ]))
        refine Plan.ends ?_
        go_wp2_with fail
        go_ret
        exact ⟨rfl, BW.trans (hSw7.2.mono (by omega))⟩
      · have hE1 : (SumMath.makeE (bytesOf L) != 0) = true := by simp [hE]
        generalize SumMath.makeR (bytesOf L) = r at hm hrm
        generalize SumMath.makeE (bytesOf L) = E at hm hrm hE1
        simp only [recV] at hm hrm
        generalize r.kind = k1 at hm hrm
        generalize r.block = b1 at hm hrm
        generalize r.version = v1 at hm hrm
        generalize r.move = m1 at hm hrm
        generalize (⟨r.payload.toArray⟩ : ByteArray) = p1 at hm hrm
        have H1 := Lib.hid hm
        have H2 := Lib.hid hrm
        have zb := hb.size
        clear hm hrm hS hgX hXl hgood hst
        go_wp2_with (first
          | (go_at_call 7; ((with_reducible refine (H1.out _ (Below.refl _ _)).mono ?_); rintro e w1 ⟨rfl, hb1⟩; have hx1 := heap_alloc_new w1 (.cells #[.int .i64 k1, .int .i64 b1, .int .i64 v1, .int .i64 m1, .string p1] 24); have B1 := hb1.alloc hb1.size (.cells #[.int .i64 k1, .int .i64 b1, .int .i64 v1, .int .i64 m1, .string p1] 24)))
          | (go_at_call 8; ((with_reducible refine (H2.out _ B1).mono ?_); rintro e w2 ⟨rfl, hb2⟩; have hx2 := row_al (row_on hb2 hx1 (row5 hx1).1) (.cells #[.int .i64 k1, .int .i64 b1, .int .i64 v1, .int .i64 m1, .string p1] 24); have hw2 := heap_alloc_new w2 (.cells #[.int .i64 k1, .int .i64 b1, .int .i64 v1, .int .i64 m1, .string p1] 24); obtain ⟨t1, d0, d1, d2, d3, d4⟩ := row5 hx2; obtain ⟨t2, e0, e1, e2, e3, e4⟩ := row5 hw2; have B2 := (B1.trans (hb2.mono B1.size)).alloc (by have := hb2.size; have := B1.size; omega) (.cells #[.int .i64 k1, .int .i64 b1, .int .i64 v1, .int .i64 m1, .string p1] 24)))
          | (go_at_call 6; ((with_reducible refine (AW.out _).mono ?_); rintro e w9 ⟨rfl, hb9⟩)))
        go_ret
        exact ⟨rfl, (hb.trans (B2.mono zb)).trans (hb9.mono (by have := B2.size; omega))⟩
theorem sumMade_all (a : Option Addr) (len cap : Nat) (z : List Int) (many at' bit : Int) (w : World) (hrow : IsRow .i64 w a len cap z) :
    Calls Try.prog 4 #[.slice a len cap, .int .i64 many, .int .i64 at', .int .i64 bit] w fun e w' => e = .returned (.bool true) ∧ Below w.heap.size w w' := by
  by_cases h : len ≤ 300
  · exact sumMade_go a len cap z many at' bit w hrow h
  · exact sumMade_light a len cap many at' bit w (by omega)
end Go.Proofs.Ytjihkcjoaefppaa
