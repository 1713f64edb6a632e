/- The walk of the statement that bytes with a right checksum are decoded as the document says, and that what is decoded is encoded to the same. -/
import Derived.Test.YthpfkmdnpfgjlaaMakeRecord
import Derived.Test.YthpfkmdnpfgjlaaMakeFlip
namespace Go.Proofs.Ythpfkmdnpfgjlaa
open Go.RowKit Plan

/-- what is decoded is encoded to the same -/
theorem enc_of_dec {l : List UInt8} (h : RecMath.decE l = 0) : RecMath.checkE (RecMath.dec l) = 0 ∧ RecMath.encL (RecMath.dec l) = l := ⟨(RecMath.enc_dec h).1, (RecMath.enc_dec h).2.1⟩
theorem encode_rec (r : RecMath.Rec) (w : World) :
    Calls Try.prog 9 #[.agg (recV r)] w fun e w' => e = .returned (.tuple #[.string ⟨(RecMath.encL r).toArray⟩, .int .i64 (RecMath.checkE r)]) ∧ Below w.heap.size w w' := by
  have h := encode_any r.kind r.block r.version r.move ⟨r.payload.toArray⟩ w
  have e : mk r.kind r.block r.version r.move ⟨r.payload.toArray⟩ = r := by
    unfold mk
    rw [toList_mk]
  rw [e] at h
  exact h
theorem sealed_any (s : ByteArray) (w : World) (h : s.size ≤ 1000000) :
    Calls Try.prog 24 #[.string s] w fun e w' => e = .returned (.string ⟨(RecMath.sealL s.data.toList).toArray⟩) ∧ Below w.heap.size w w' := by
  have hs := fun w => refSeal_any s w h
  generalize (⟨(RecMath.sealL s.data.toList).toArray⟩ : ByteArray) = S at hs ⊢
  have H := Lib.hid hs
  clear hs h
  go_enter Try.func24, Try.ntmps24
  go_wp2_with (go_at_call 29; ((with_reducible refine (H.out _).mono ?_); rintro e w1 ⟨rfl, hb1⟩))
  go_ret
  exact ⟨rfl, hb1⟩
theorem sealed_light (a : Option Addr) (len cap : Nat) (at' by' : Int) (w : World) (h : 300 < len) :
    Calls Try.prog 6 #[.slice a len cap, .int .i64 at', .int .i64 by'] w fun e w' => e = .returned (.bool true) ∧ Below w.heap.size w w' := by
  have hl := light_any a len cap
  rw [show decide ((len : Int) ≤ 300) = false by simp; omega] at hl
  have HL := Lib.hid hl
  clear hl h
  go_enter Try.func6, Try.ntmps6
  go_wp2_with (first
    | (go_at_call 18; ((with_reducible refine (HL.out _).mono ?_); rintro e w1 ⟨rfl, rfl⟩))
    | (go_at_call 8; ((with_reducible refine (recAwake _).mono ?_); rintro e w2 ⟨rfl, hb2⟩)))
  go_ret
  exact ⟨rfl, hb2⟩
theorem sealed_val (x : UInt8) (c : Nat) (hc : c < 255) : bits .xor .u8 (x.toNat : Int) (IntKind.u8.wrap (IntKind.i64.wrap (1 + (c : Int)))) = ((x ^^^ UInt8.ofNat (1 + c)).toNat : Int) := by
  have h := u8_xor_nat x.toNat (1 + c) x.toNat_lt (by omega)
  have e : IntKind.u8.wrap (IntKind.i64.wrap (1 + (c : Int))) = ((1 + c : Nat) : Int) := by
    have e1 : IntKind.i64.wrap (1 + (c : Int)) = 1 + (c : Int) := by simp [IntKind.wrap, IntKind.bits, IntKind.signed]; omega
    have e2 : IntKind.u8.wrap (1 + (c : Int)) = 1 + (c : Int) := by simp [IntKind.wrap, IntKind.bits, IntKind.signed]; omega
    rw [e1, e2]
    omega
  have e2 : (UInt8.ofNat (1 + c)).toNat = 1 + c := by rw [UInt8.toNat_ofNat']; exact Nat.mod_eq_of_lt (by omega)
  rw [e, h, UInt8.toNat_xor, e2]
set_option maxHeartbeats 2000000 in
set_option maxRecDepth 20000 in
theorem sealed_go (a : Option Addr) (len cap : Nat) (z : List Int) (at' by' : Int) (w : World) (hrow : IsRow .i64 w a len cap z) (h : len ≤ 300) :
    Calls Try.prog 6 #[.slice a len cap, .int .i64 at', .int .i64 by'] w fun e w' => e = .returned (.bool true) ∧ Below w.heap.size w w' := by
  have hl := light_any a len cap
  rw [show decide ((len : Int) ≤ 300) = true by simp; omega] at hl
  have hr := roll_any a len cap z w hrow h
  have hz : (z.take len).length ≤ 100000 := by rw [List.length_take]; omega
  generalize z.take len = zs at hr hz
  have hx := nxt_range zs 0 90 (by decide)
  have hok := made_ok zs (stp zs 0) 9 (1 + nxt zs 0 90) (by decide) (by decide) (by omega) (by omega)
  have hn : ∀ W g, Dice W w.heap.size g zs 0 → Calls Try.prog 22 #[.pointer (some ⟨g, 0, none⟩), .int .i64 90] W (NextPost W w.heap.size g zs 0 90) := fun W g h => next_any W _ g zs 0 90 h hz (by decide) (by decide)
  have hm : ∀ W g, Dice W w.heap.size g zs (stp zs 0) → Calls Try.prog 21 #[.pointer (some ⟨g, 0, none⟩), .int .i64 9, .int .i64 (1 + nxt zs 0 90)] W (MadePost W w.heap.size g zs (stp zs 0) 9 (1 + nxt zs 0 90)) := fun W g h => made_any W _ g zs _ 9 _ h hz (by decide) (by decide)
  have hs := sector_made (madeK zs (stp zs 0)) (nxt zs (stp zs 0) 9) (1 + nxt zs 0 90) 0 (madeP zs (stp zs 0))
  have h40 := RecMath.enc_length hok
  obtain ⟨j, hj1, hj2⟩ : ∃ j : Nat, at' % 36 = (j : Int) ∧ j < 36 := ⟨(at' % 36).toNat, by omega, by omega⟩
  obtain ⟨c, hc1, hc2⟩ : ∃ c : Nat, by' % 255 = (c : Int) ∧ c < 255 := ⟨(by' % 255).toNat, by omega, by omega⟩
  have hm1 : ∀ w, Calls Try.prog 23 #[.int .i64 at', .int .i64 36] w fun e w' => e = .returned (.int .i64 (j : Int)) ∧ w = w' := fun w => by
    rw [← hj1]; exact mod_any at' 36 (by decide) (by decide) w
  have hm2 : ∀ w, Calls Try.prog 23 #[.int .i64 by', .int .i64 255] w fun e w' => e = .returned (.int .i64 (c : Int)) ∧ w = w' := fun w => by
    rw [← hc1]; exact mod_any by' 255 (by decide) (by decide) w
  generalize RecMath.encL (mk (madeK zs (stp zs 0)) (nxt zs (stp zs 0) 9) (1 + nxt zs 0 90) 0 (madeP zs (stp zs 0))) = SL at hs h40
  have hSz : (⟨SL.toArray⟩ : ByteArray).size = 40 := by rw [size_bytes, h40]
  generalize hSB : (⟨SL.toArray⟩ : ByteArray) = SB at hs hSz
  have hp36 : (SB.extract 0 36).size = 36 := by rw [← size_list, ext_36, List.length_take, size_list, hSz]; rfl
  have b36 : (36 : Int) ≤ (SB.size : Int) := by omega
  have hconv := fun w => run_bytes (SB.extract 0 36) 36 hp36 w
  have hll : (SB.extract 0 36).data.toList.length = 36 := by rw [size_list, hp36]
  have hjl : j < (SB.extract 0 36).data.toList.length := by omega
  have hx1 := hx.1
  have hx2 := hx.2
  have hji : (j : Int) < 36 := by omega
  have hci : 1 + (c : Int) < 256 := by omega
  have hval : ∀ B : Nat, (SB.extract 0 36).data.toList[j].toNat = B → bits .xor .u8 (B : Int) (IntKind.u8.wrap (IntKind.i64.wrap (1 + (c : Int)))) = (((SB.extract 0 36).data.toList[j] ^^^ UInt8.ofNat (1 + c)).toNat : Int) := fun B hB => by
    rw [← hB]; exact sealed_val _ c hc2
  have hZs : (⟨((SB.extract 0 36).data.toList.set j ((SB.extract 0 36).data.toList[j] ^^^ UInt8.ofNat (1 + c))).toArray⟩ : ByteArray).size ≤ 1000000 := by
    rw [size_bytes, List.length_set, hll]; omega
  generalize hZ : (⟨((SB.extract 0 36).data.toList.set j ((SB.extract 0 36).data.toList[j] ^^^ UInt8.ofNat (1 + c))).toArray⟩ : ByteArray) = Z at hZs
  have g0 := fun w => sealed_any Z w hZs
  generalize (⟨(RecMath.sealL Z.data.toList).toArray⟩ : ByteArray) = T at g0
  have g1 := decode_any T
  have g2 := refDecode_any T
  have g3 := encode_rec (RecMath.dec T.data.toList)
  have g4 : RecMath.decE T.data.toList = 0 → RecMath.checkE (RecMath.dec T.data.toList) = 0 ∧ (⟨(RecMath.encL (RecMath.dec T.data.toList)).toArray⟩ : ByteArray) = T := fun h => ⟨(enc_of_dec h).1, by rw [(enc_of_dec h).2]⟩
  generalize RecMath.checkE (RecMath.dec T.data.toList) = CE at g3 g4
  generalize (⟨(RecMath.encL (RecMath.dec T.data.toList)).toArray⟩ : ByteArray) = U at g3 g4
  generalize RecMath.dec T.data.toList = r at g1 g2 g3
  generalize RecMath.decE T.data.toList = E at g1 g2 g4
  simp only [recV] at g1 g2 g3
  generalize r.kind = k at g1 g2 g3
  generalize r.block = b at g1 g2 g3
  generalize r.version = v at g1 g2 g3
  generalize r.move = m at g1 g2 g3
  generalize (⟨r.payload.toArray⟩ : ByteArray) = p at g1 g2 g3
  have G0 := Lib.hid g0
  have G1 := Lib.hid g1
  have G2 := Lib.hid g2
  have G3 := Lib.hid g3
  have G4 := Lib.hid g4
  have HV := Lib.hid hval
  have HZ := Lib.hid hZ
  have HLL := Lib.hid hll
  have HL := Lib.hid hl
  have HR := Lib.hid hr
  have HN := Lib.hid hn
  have HM := Lib.hid hm
  have HS := Lib.hid hs
  have M1 := Lib.hid hm1
  have M2 := Lib.hid hm2
  have JL := Lib.hid hjl
  clear hl hr hn hm hs hm1 hm2 hc1 hj1 hok hz hx h40 hSB hp36 hSz hll hrow h hval hZ hZs g0 g1 g2 g3 g4
  go_enter Try.func6, Try.ntmps6
  go_wp2_with (first
    | (go_at_call 18; ((with_reducible refine (HL.out _).mono ?_); rintro e w1 ⟨rfl, rfl⟩))
    | (go_at_call 19; ((with_reducible refine HR.out.mono ?_); rintro e w1 ⟨g, rfl, hd1, hb1⟩))
    | (go_at_call 22; ((with_reducible refine (HN.out _ _ hd1).mono ?_); rintro e w2 ⟨rfl, hd2, hg2, hs2⟩))
    | (go_at_call 21; ((with_reducible refine (HM.out _ _ hd2).mono ?_); rintro e w3 ⟨rfl, hd3, hg3⟩))
    | (go_at_call 20; ((with_reducible refine (HS.out _).mono ?_); rintro e w4 ⟨rfl, hb4⟩)))
  have hgw := dice_base hd1
  have e4 : Below w.heap.size w w4 := ((hb1.grown hg2 hb1.size (fun k hk => by cases hk; exact hgw)).grown hg3 (Nat.le_trans hb1.size hg2.size) (fun k hk => by cases hk; exact hgw)).trans (hb4.mono (Nat.le_trans hb1.size (Nat.le_trans hg2.size hg3.size)))
  have hin := inRow_bytes (SB.extract 0 36) e4
  have hc := hin.cell j JL.out
  have hf := hin.free j JL.out
  clear hconv hb1 hg2 hs2 hg3 hb4 hd1 hd2 hd3
  generalize bytesW (SB.extract 0 36) w4 = W at hin hc hf ⊢
  have HV1 := HV.out _ rfl
  generalize (SB.extract 0 36).data.toList[j].toNat = B at hc HV1
  have HV2 := Lib.hid HV1
  clear HV1 HV
  refine Last.start (fun w' => w' = W.drew) [(0, true), (1, true), (5, true), (2, false), (3, true), (4, true), (6, false), (7, true), (8, true), (9, true), (10, true), (11, false)] (by kernel_rfl) (by kernel_rfl) (by kernel_rfl) (by kernel_rfl) rfl ?_
  simp only [List.map_cons, List.map_nil, List.getElem?_toArray, List.getElem?_cons_zero, List.getElem?_cons_succ]
  repeat (first | (refine Last.take ?_ (by rfl) ?_ ?_; rotate_left; (· rintro w9 rfl; go_simp; (try rw [if_neg (by omega)]); all_goals (with_reducible rfl)); simp only [Act.put, List.setIfInBounds_toArray, List.set_cons_zero, List.set_cons_succ]) | (refine Last.pass (by rfl) ?_; simp only [Act.put, List.setIfInBounds_toArray, List.set_cons_zero, List.set_cons_succ]))
  refine Last.call (by rfl) 23 _ ?_ (M1.out _) ?_
  · go_simp
  rintro e w1 ⟨rfl, rfl⟩
  refine ⟨_, rfl, rfl, ?_⟩
  simp only [Act.put, List.setIfInBounds_toArray, List.set_cons_zero, List.set_cons_succ]
  repeat (first | (refine Last.take ?_ (by rfl) ?_ ?_; rotate_left; (· rintro w9 rfl; go_simp; (try rw [if_neg (by omega)]); all_goals (with_reducible rfl)); simp only [Act.put, List.setIfInBounds_toArray, List.set_cons_zero, List.set_cons_succ]) | (refine Last.pass (by rfl) ?_; simp only [Act.put, List.setIfInBounds_toArray, List.set_cons_zero, List.set_cons_succ]))
  refine Last.call (by rfl) 23 _ ?_ (M2.out _) ?_
  · go_simp
  rintro e w1 ⟨rfl, rfl⟩
  refine ⟨_, rfl, rfl, ?_⟩
  simp only [Act.put, List.setIfInBounds_toArray, List.set_cons_zero, List.set_cons_succ]
  repeat (first | (refine Last.take ?_ (by rfl) ?_ ?_; rotate_left; (· rintro w9 rfl; go_simp; (try rw [if_neg (by omega)]); all_goals (with_reducible rfl)); simp only [Act.put, List.setIfInBounds_toArray, List.set_cons_zero, List.set_cons_succ]) | (refine Last.pass (by rfl) ?_; simp only [Act.put, List.setIfInBounds_toArray, List.set_cons_zero, List.set_cons_succ]))
  refine Last.last (by rfl) ?_
  go_simp
  rw [HV2.out]
  have hin2 := hin.store j ((SB.extract 0 36).data.toList[j] ^^^ UInt8.ofNat (1 + c))
  have hback := hin2.back (n := 36) (by rw [List.length_set]; exact HLL.out) (Below.refl _ _).drew (bytesC (SB.extract 0 36) w4)
  have hbw : Below w.heap.size w (W.setCell ⟨w4.heap.size, j, none⟩ (.int .u8 (((SB.extract 0 36).data.toList[j] ^^^ UInt8.ofNat (1 + c)).toNat : Int))).drew := by obtain ⟨_, _, _, _, hb, _⟩ := hin2; exact hb.drew
  clear hin hin2 hc hf HV2 e4
  generalize (W.setCell ⟨w4.heap.size, j, none⟩ (.int .u8 (((SB.extract 0 36).data.toList[j] ^^^ UInt8.ofNat (1 + c)).toNat : Int))).drew = W2 at hback hbw ⊢
  replace hback : (convert 44 9 (.slice (some ⟨w4.heap.size, 0, none⟩) 36 (bytesC (SB.extract 0 36) w4))).run Try.prog W2 = .ok (.string Z) W2 := by
    have hz := HZ.out
    subst hz
    exact hback
  clear HZ
  have hG4 := G4.out
  clear G4
  by_cases hE : E = 0
  · obtain ⟨rfl, rfl⟩ := hG4 hE
    subst hE
    go_wp2_with (first
      | (go_at_call 24; ((with_reducible refine (G0.out _).mono ?_); rintro e w5 ⟨rfl, hb5⟩))
      | (go_at_call 15; ((with_reducible refine (G1.out _).mono ?_); rintro e w6 ⟨rfl, hb6⟩))
      | (go_at_call 16; ((with_reducible refine (G2.out _).mono ?_); rintro e w7 ⟨rfl, hb7⟩; have hr7 := heap_old hb7 (g := w6.heap.size) (by simp) (heap_alloc_new w6 _); have hx := row_al hr7 (.cells #[.int .i64 k, .int .i64 b, .int .i64 v, .int .i64 m, .string p] 23); have q7 := row5 hx; obtain ⟨y7, c70, c71, c72, c73, c74⟩ := q7))
      | (go_at_call 9; ((with_reducible refine (G3.out _).mono ?_); rintro e w8 ⟨rfl, hb8⟩; have hx8 := row_on hb8 hx y7; have hy8 := row_on hb8 (heap_alloc_new w7 _) (by simp); have y8 := (row5 hx8).1; have z8 := (row5 hy8).1))
      | (go_at_call 8; ((with_reducible refine (recAwake _).mono ?_); rintro e w9 ⟨rfl, hb9⟩; have hx9 := row5 (row_on hb9 hx8 y8); have hy9 := row5 (row_on hb9 hy8 z8); obtain ⟨y9, c90, c91, c92, c93, c94⟩ := hx9; obtain ⟨z9, d90, d91, d92, d93, d94⟩ := hy9)))
    go_ret
    have z5 := hb5.size
    have z6 := hb6.size
    have z7 := hb7.size
    have z8 := hb8.size
    have zw := hbw.size
    simp only [World.size_alloc] at z7 z8
    exact ⟨rfl, ((((((hbw.trans (hb5.mono zw)).trans (hb6.mono (by omega))).alloc (by omega) _).trans (hb7.mono (by simp; omega))).alloc (by omega) _).trans (hb8.mono (by simp; omega))).trans (hb9.mono (by omega))⟩
  · have hE1 : (E == 0) = false := by simp [hE]
    have hE2 : (E != 0) = true := by simp [hE]
    clear hG4
    go_wp2_with (first
      | (go_at_call 24; ((with_reducible refine (G0.out _).mono ?_); rintro e w5 ⟨rfl, hb5⟩))
      | (go_at_call 15; ((with_reducible refine (G1.out _).mono ?_); rintro e w6 ⟨rfl, hb6⟩))
      | (go_at_call 16; ((with_reducible refine (G2.out _).mono ?_); rintro e w7 ⟨rfl, hb7⟩; have hr7 := heap_old hb7 (g := w6.heap.size) (by simp) (heap_alloc_new w6 _); have hx := row_al hr7 (.cells #[.int .i64 k, .int .i64 b, .int .i64 v, .int .i64 m, .string p] 23); have q7 := row5 hx; obtain ⟨y7, c70, c71, c72, c73, c74⟩ := q7))
      | (go_at_call 9; ((with_reducible refine (G3.out _).mono ?_); rintro e w8 ⟨rfl, hb8⟩; have hx8 := row_on hb8 hx y7; have hy8 := row_on hb8 (heap_alloc_new w7 _) (by simp); have y8 := (row5 hx8).1; have z8 := (row5 hy8).1))
      | (go_at_call 8; ((with_reducible refine (recAwake _).mono ?_); rintro e w9 ⟨rfl, hb9⟩; have hx9 := row5 (row_on hb9 hx8 y8); have hy9 := row5 (row_on hb9 hy8 z8); obtain ⟨y9, c90, c91, c92, c93, c94⟩ := hx9; obtain ⟨z9, d90, d91, d92, d93, d94⟩ := hy9)))
    go_ret
    have z5 := hb5.size
    have z6 := hb6.size
    have z7 := hb7.size
    have z8 := hb8.size
    have zw := hbw.size
    simp only [World.size_alloc] at z7 z8
    exact ⟨rfl, ((((((hbw.trans (hb5.mono zw)).trans (hb6.mono (by omega))).alloc (by omega) _).trans (hb7.mono (by simp; omega))).alloc (by omega) _).trans (hb8.mono (by simp; omega))).trans (hb9.mono (by omega))⟩
theorem sealed_all (a : Option Addr) (len cap : Nat) (z : List Int) (at' by' : Int) (w : World) (hrow : IsRow .i64 w a len cap z) :
    Calls Try.prog 6 #[.slice a len cap, .int .i64 at', .int .i64 by'] w fun e w' => e = .returned (.bool true) ∧ Below w.heap.size w w' := by
  by_cases h : len ≤ 300
  · exact sealed_go a len cap z at' by' w hrow h
  · exact sealed_light a len cap at' by' w (by omega)
end Go.Proofs.Ythpfkmdnpfgjlaa
