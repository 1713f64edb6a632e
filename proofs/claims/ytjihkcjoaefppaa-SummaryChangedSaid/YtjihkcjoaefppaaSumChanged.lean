/- The walk of the statement that a summary fits no list in which one record has another block. -/
import Derived.Test.YtjihkcjoaefppaaSumSays
import Derived.Test.YtjihkcjoaefppaaSumOther
import Derived.Test.YtjihkcjoaefppaaMakeRecs
namespace Go.Proofs.Ytjihkcjoaefppaa
open Go.RowKit Plan

theorem awake4_any (w : World) : Calls Try.prog 6 #[] w fun e w' => e = .returned (.bool true) ∧ Below w.heap.size w w' := sumAwake make_says verify_says w
theorem sumChanged_light (a : Option Addr) (len cap : Nat) (many at' blk : Int) (w : World) (h : 300 < len) :
    Calls Try.prog 5 #[.slice a len cap, .int .i64 many, .int .i64 at', .int .u32 blk] w fun e w' => e = .returned (.bool true) ∧ Below w.heap.size w w' := by
  have hl := light_any a len cap
  rw [show decide ((len : Int) ≤ 300) = false by simp; omega] at hl
  have HL := Lib.hid hl
  have AW := Lib.hid awake4_any
  clear hl h
  go_enter Try.func5, Try.ntmps5
  go_wp2_with (first
    | (go_at_call 11; ((with_reducible refine (HL.out _).mono ?_); rintro e w1 ⟨rfl, rfl⟩))
    | (go_at_call 6; ((with_reducible refine (AW.out _).mono ?_); rintro e w9 ⟨rfl, hb9⟩)))
  go_ret
  exact ⟨rfl, hb9⟩
/-- a record's sector -/
def sect (r : RecMath.Rec) : ByteArray := ⟨(RecMath.encL r).toArray⟩
theorem bytes_sect (R : List RecMath.Rec) : bytesOf (R.map sect) = R.map RecMath.encL := by
  simp [bytesOf, sect, Function.comp_def]
theorem sect_size {r : RecMath.Rec} (h : RecMath.checkE r = 0) : (sect r).size = 40 := by
  rw [sect, size_bytes, RecMath.enc_length h]
theorem recCells_mk (k b v m : Int) (p : ByteArray) : recCells (mk k b v m p) = [.int .i64 k, .int .i64 b, .int .i64 v, .int .i64 m, .string p] := by
  simp [recCells, mk]
theorem made_goodR (zs : List Int) (k : Nat) (blocks version : Int) (h1 : 1 ≤ blocks) (h2 : blocks ≤ 4294967296) (h3 : 0 ≤ version) (h4 : version ≤ 1099511627776) : RecMath.checkE (mk (madeK zs k) (nxt zs k blocks) version 0 (madeP zs k)) = 0 ∧ ((mk (madeK zs k) (nxt zs k blocks) version 0 (madeP zs k)).kind = 1 ∨ (mk (madeK zs k) (nxt zs k blocks) version 0 (madeP zs k)).kind = 2) := by
  refine ⟨made_ok zs k blocks version h1 h2 h3 h4, ?_⟩
  show madeK zs k = 1 ∨ madeK zs k = 2
  unfold madeK
  split
  · exact .inr rfl
  · exact .inl rfl
/-- what the drawn region keeps to: a record in a block of its own -/
abbrev RowAt (x : Nat) (k b v m : Int) (p : ByteArray) (w' : World) : Prop :=
  (w'.cell? ⟨x, 0, none⟩ = some (.int .i64 k) ∧ w'.cell? ⟨x, 1, none⟩ = some (.int .i64 b) ∧ w'.cell? ⟨x, 2, none⟩ = some (.int .i64 v) ∧ w'.cell? ⟨x, 3, none⟩ = some (.int .i64 m) ∧ w'.cell? ⟨x, 4, none⟩ = some (.string p)) ∧ w'.heap[x]? = some (.cells #[.int .i64 k, .int .i64 b, .int .i64 v, .int .i64 m, .string p] 24 (0, 0))
theorem rowAt_of {x : Nat} {k b v m : Int} {p : ByteArray} {w' : World} (h : w'.heap[x]? = some (.cells #[.int .i64 k, .int .i64 b, .int .i64 v, .int .i64 m, .string p] 24 (0, 0))) : RowAt x k b v m p w' := ⟨(row5 h).2, h⟩
/-- the cells of a record in the midst of a list -/
theorem five_cells {w : World} {B gu n cu : Nat} {R : List RecMath.Rec} (h : w.ownsRow B 24 5 (.slice (some ⟨gu, 0, none⟩) n cu) n (recs R)) {q : Nat} {r : RecMath.Rec} (hr : R[q]? = some r) :
    w.cell? ⟨gu, q * 5, none⟩ = some (.int .i64 r.kind) ∧ w.cell? ⟨gu, q * 5 + 1, none⟩ = some (.int .i64 r.block) ∧ w.cell? ⟨gu, q * 5 + 2, none⟩ = some (.int .i64 r.version) ∧ w.cell? ⟨gu, q * 5 + 3, none⟩ = some (.int .i64 r.move) ∧ w.cell? ⟨gu, q * 5 + 4, none⟩ = some (.string ⟨r.payload.toArray⟩) :=
  have h5 := recs_five h hr
  ⟨h5 0 (by decide), h5 1 (by decide), h5 2 (by decide), h5 3 (by decide), h5 4 (by decide)⟩
/-- behind the first summary: its record in a block of its own, another block's number in the list of records, and an empty list -/
theorem changed_one {w0 wr w1 : World} {B gu cu c2 n q : Nat} {a2 : Option Addr} {R : List RecMath.Rec} {rq : RecMath.Rec} (hs : wr.ownsRow B 9 1 (.slice a2 n c2) n (strs (R.map sect))) (hz : ∀ s ∈ R.map sect, s.size ≤ maxLen)
    (hr : wr.ownsRow B 24 5 (.slice (some ⟨gu, 0, none⟩) n cu) n (recs R)) (hq : R[q]? = some rq) (blk : Int) (hb0 : Below w0.heap.size w0 wr) (hB : w0.heap.size ≤ B) (hb : Below wr.heap.size wr w1) (row : Array Value) :
    (w1.alloc (.cells row 24)).frozen? ⟨gu, q * 5 + 1, none⟩ = false ∧ (w1.alloc (.cells row 24)).cell? ⟨gu, q * 5 + 1, none⟩ = some (.int .i64 rq.block) ∧
    IsStrs (((w1.setCell ⟨gu, q * 5 + 1, none⟩ (.int .i64 blk)).alloc (.cells row 24)).alloc (.cells #[] 9)) a2 n c2 (R.map sect) ∧
    (((w1.setCell ⟨gu, q * 5 + 1, none⟩ (.int .i64 blk)).alloc (.cells row 24)).alloc (.cells #[] 9)).ownsRow (w1.heap.size + 1) 9 1 (.slice (some ⟨w1.heap.size + 1, 0, none⟩) 0 0) 0 [] ∧
    (((w1.setCell ⟨gu, q * 5 + 1, none⟩ (.int .i64 blk)).alloc (.cells row 24)).alloc (.cells #[] 9)).ownsRow B 24 5 (.slice (some ⟨gu, 0, none⟩) n cu) n (recs (R.set q (SumMath.other rq blk))) ∧
    (((w1.setCell ⟨gu, q * 5 + 1, none⟩ (.int .i64 blk)).alloc (.cells row 24)).alloc (.cells #[] 9)).heap[w1.heap.size]? = some (.cells row 24 (0, 0)) ∧
    Below w0.heap.size w0 (((w1.setCell ⟨gu, q * 5 + 1, none⟩ (.int .i64 blk)).alloc (.cells row 24)).alloc (.cells #[] 9)) ∧
    (((w1.setCell ⟨gu, q * 5 + 1, none⟩ (.int .i64 blk)).alloc (.cells row 24)).alloc (.cells #[] 9)).heap.size = w1.heap.size + 1 + 1 ∧ gu < w1.heap.size ∧
    (((w1.setCell ⟨gu, q * 5 + 1, none⟩ (.int .i64 blk)).alloc (.cells row 24)).alloc (.cells #[] 9)).ownsRow B 9 1 (.slice a2 n c2) n (strs (R.map sect)) ∧ (∀ k, (Value.slice a2 n c2).ownBlock = some k → k < w1.heap.size) := by
  have b1 := hb.alloc hb.size (.cells row 24)
  have hs1 := owns_keep hs b1
  have hr1 := owns_keep hr b1
  have hgu := hr.lt gu rfl
  have hgw : gu < w1.heap.size := by have := hb.size; omega
  have heq : (w1.alloc (.cells row 24)).setCell ⟨gu, q * 5 + 1, none⟩ (.int .i64 blk) = (w1.setCell ⟨gu, q * 5 + 1, none⟩ (.int .i64 blk)).alloc (.cells row 24) := World.setCell_alloc_past _ _ _ _ hgw
  rw [← heq]
  have hne : (Value.slice a2 n c2).ownBlock ≠ some gu := by
    rcases owns_ne hs hr (by decide) with h | h
    · rw [h]; simp
    · exact h
  have hs2 := ownsRow_setCell_other hs1 (a := ⟨gu, q * 5 + 1, none⟩) hne (.int .i64 blk)
  have hr2 := recs_store hr1 hq blk
  have hx := heap_alloc_new w1 (.cells row 24)
  have hx2 := (Below.heap_setCell (w1.alloc (.cells row 24)) ⟨gu, q * 5 + 1, none⟩ (.int .i64 blk) w1.heap.size (show w1.heap.size ≠ gu by omega)).trans hx
  have hsz : ((w1.alloc (.cells row 24)).setCell ⟨gu, q * 5 + 1, none⟩ (.int .i64 blk)).heap.size = w1.heap.size + 1 := by simp [World.setCell]
  have hbw := (hb0.trans (b1.mono hb0.size)).setCell (show w0.heap.size ≤ (⟨gu, q * 5 + 1, none⟩ : Addr).block by show w0.heap.size ≤ gu; omega) (.int .i64 blk)
  obtain ⟨-, a3, c3, h3, hS3⟩ := owns_strs (hs2.alloc (.cells #[] 9)) hz
  cases h3
  refine ⟨owns_free hr1 _, (five_cells hr1 hq).2.1, hS3, ?_, hr2.alloc _, row_al hx2 _, hbw.alloc hbw.size _, by rw [World.size_alloc, hsz], hgw, hs2.alloc _, fun k hk => by have := (hs.lt k hk).2; have := hb.size; omega⟩
  have := World.ownsRow_made (base := w1.heap.size + 1) (e := 9) (size := 1) ((w1.alloc (.cells row 24)).setCell ⟨gu, q * 5 + 1, none⟩ (.int .i64 blk)) #[] 0 (by omega) (by unfold maxLen; decide) rfl
  rwa [hsz] at this
theorem five_other {w : World} {B gu n cu : Nat} {R : List RecMath.Rec} (h : w.ownsRow B 24 5 (.slice (some ⟨gu, 0, none⟩) n cu) n (recs R)) {q : Nat} {r : RecMath.Rec} {b : Int} (hr : R[q]? = some (SumMath.other r b)) :
    w.cell? ⟨gu, q * 5, none⟩ = some (.int .i64 r.kind) ∧ w.cell? ⟨gu, q * 5 + 1, none⟩ = some (.int .i64 b) ∧ w.cell? ⟨gu, q * 5 + 2, none⟩ = some (.int .i64 r.version) ∧ w.cell? ⟨gu, q * 5 + 3, none⟩ = some (.int .i64 r.move) ∧ w.cell? ⟨gu, q * 5 + 4, none⟩ = some (.string ⟨r.payload.toArray⟩) := five_cells h hr
theorem kept_far {w w' : World} {B sz gu n cu H : Nat} {t : TypeId} {xs : List Value} (h : w.ownsRow B t sz (.slice (some ⟨gu, 0, none⟩) n cu) n xs) (hg : w.grownBy w' (some H)) (hlt : gu < H) : w'.ownsRow B t sz (.slice (some ⟨gu, 0, none⟩) n cu) n xs :=
  h.kept hg (.inr fun e => by have e : some gu = some H := e; have := Option.some.inj e; omega)
/-- behind the copy of the list, of which one sector is then another -/
theorem changed_two {w0 W3 w7 w8 : World} {A B n c2 g7 c7 q : Nat} {a2 : Option Addr} {L : List ByteArray} {row : Array Value} (hs : W3.ownsRow B 9 1 (.slice a2 n c2) n (strs L)) (hz : ∀ s ∈ L, s.size ≤ maxLen) (hlt : ∀ k, (Value.slice a2 n c2).ownBlock = some k → k < A)
    (hx : W3.heap[A]? = some (.cells row 24 (0, 0))) (hsz : W3.heap.size = A + 1 + 1) (hb : Below w0.heap.size w0 W3) (hA : w0.heap.size ≤ A)
    (hg : W3.grownBy w7 (some (A + 1))) (ho : w7.ownsRow (A + 1) 9 1 (.slice (some ⟨g7, 0, none⟩) n c7) n (strs L)) (hb8 : Below w7.heap.size w7 w8) (F : ByteArray) (hF : F.size ≤ maxLen) :
    w8.frozen? ⟨g7, q, none⟩ = false ∧ IsStrs (w8.setCell ⟨g7, q, none⟩ (.string F)) a2 n c2 L ∧ IsStrs (w8.setCell ⟨g7, q, none⟩ (.string F)) (some ⟨g7, 0, none⟩) n c7 (L.set q F) ∧
    (w8.setCell ⟨g7, q, none⟩ (.string F)).heap[A]? = some (.cells row 24 (0, 0)) ∧ Below w0.heap.size w0 (w8.setCell ⟨g7, q, none⟩ (.string F)) := by
  have hgA := (ho.lt g7 rfl).1
  have o8 := owns_keep ho hb8
  have s7 := hs.kept hg (.inr fun e => by have := hlt _ e; omega)
  have s8 := owns_keep s7 hb8
  have s9 := ownsRow_setCell_other s8 (a := ⟨g7, q, none⟩) (fun e => by have := hlt _ e; simp at this; omega) (.string F)
  have t9 := owns_set o8 q F
  obtain ⟨-, a3, c3, h3, hS⟩ := owns_strs s9 hz
  cases h3
  obtain ⟨-, a4, c4, h4, hT⟩ := owns_strs t9 (fun s hs => by
    rcases List.mem_or_eq_of_mem_set hs with hs | rfl
    · exact hz s hs
    · exact hF)
  cases h4
  have hx7 := (hg.block A (by omega) (fun e => by have := Option.some.inj e; omega)).trans hx
  have hx8 := row_on hb8 hx7 (Array.getElem?_eq_some_iff.1 hx7).1
  have hx9 := (Below.heap_setCell w8 ⟨g7, q, none⟩ (.string F) A (show A ≠ g7 by omega)).trans hx8
  have b7 := hb.grown hg (by omega) (fun k hk => by have := Option.some.inj hk; omega)
  have b8 := b7.trans (hb8.mono b7.size)
  exact ⟨owns_free o8 q, hS, hT, hx9, b8.setCell (show w0.heap.size ≤ g7 by omega) _⟩
theorem own_fresh {w : World} {B sz : Nat} {t : TypeId} {v : Value} {n : Nat} {xs : List Value} (h : w.ownsRow B t sz v n xs) : v.ownBlock ≠ some w.heap.size := fun e => by
  have := (h.lt _ e).2
  omega
set_option maxHeartbeats 2000000 in
set_option maxRecDepth 20000 in
theorem sumChanged_go (a : Option Addr) (len cap : Nat) (z : List Int) (many at' blk : Int) (w : World) (hrow : IsRow .i64 w a len cap z) (h : len ≤ 300) (hk0 : 0 ≤ blk) (hk1 : blk < 4294967296) :
    Calls Try.prog 5 #[.slice a len cap, .int .i64 many, .int .i64 at', .int .u32 blk] w fun e w' => e = .returned (.bool true) ∧ Below w.heap.size w w' := by
  have hl := light_any a len cap
  rw [show decide ((len : Int) ≤ 300) = true by simp; omega] at hl
  have hr := roll_any a len cap z w hrow h
  have hz : (z.take len).length ≤ 100000 := by rw [List.length_take]; omega
  generalize z.take len = zs at hr hz
  have hmod := mod_any many 20 (by decide) (by decide)
  obtain ⟨M, hM1, hM2⟩ : ∃ M : Nat, many % 20 = (M : Int) ∧ M < 20 := ⟨(many % 20).toNat, by omega, by omega⟩
  rw [hM1] at hmod
  have hMI : (M : Int) < 20 := by omega
  obtain ⟨i0, hi0, hz0, hz1, hz2⟩ := info_parts str_info
  obtain ⟨i1, hi1, hy0, hy1, hy2⟩ := info_parts rec_info6
  have hn : ∀ W g k, Dice W w.heap.size g zs k → Calls Try.prog 16 #[.pointer (some ⟨g, 0, none⟩), .int .i64 900] W (NextPost W w.heap.size g zs k 900) := fun W g k h => next_any W _ g zs k 900 h hz (by decide) (by decide)
  have hm : ∀ W g k j, Dice W w.heap.size g zs k → Calls Try.prog 15 #[.pointer (some ⟨g, 0, none⟩), .int .i64 9, .int .i64 (1 + nxt zs j 900)] W (MadePost W w.heap.size g zs k 9 (1 + nxt zs j 900)) := fun W g k j h => made_any W _ g zs k 9 _ h hz (by decide) (by decide)
  have HL := Lib.hid hl
  have HR := Lib.hid hr
  have HN := Lib.hid hn
  have HM := Lib.hid hm
  have HD := Lib.hid hmod
  have AW := Lib.hid awake4_any
  clear hl hr hn hm hmod hrow h
  go_enter Try.func5, Try.ntmps5
  go_wp2_with (first
    | (go_at_call 11; ((with_reducible refine (HL.out _).mono ?_); rintro e w1 ⟨rfl, rfl⟩))
    | (go_at_call 12; ((with_reducible refine HR.out.mono ?_); rintro e w1 ⟨g, rfl, hd1, hb1⟩))
    | (go_at_call 13; ((with_reducible refine (HD.out _).mono ?_); rintro e w2 ⟨rfl, rfl⟩)))
  have hgw := dice_base hd1
  go_loopw [10, 11, 12] (fun v u c wr => ∃ (j kk : Nat) (R : List RecMath.Rec), c = .int .i64 j ∧ j + R.length = M + 1 ∧ Duo wr w.heap.size g zs kk v (R.map sect) u R ∧ SumMath.GoodR R ∧ Below w.heap.size w wr) (fun _ _ c _ => (intOf c).toNat)
  case atStart => exact ⟨M + 1, 0, [], by first | go_num | (congr 1; omega), rfl, Duo.nil hd1, (by intro r hr; cases hr), hb1⟩
  case round =>
    obtain ⟨j, kk, R, rfl, hjR, hst, hgood, hb⟩ := hrel
    cases j with
    | succ j =>
      have hjI : (0 : Int) < ((j + 1 : Nat) : Int) := by omega
      have hRM : R.length ≤ 20 := by omega
      have hsm : (R.map sect).length = R.length := by simp
      have hrg := nxt_range zs kk 900 (by decide)
      have hgd := made_goodR zs (stp zs kk) 9 (1 + nxt zs kk 900) (by decide) (by decide) (by omega) (by omega)
      have hS := sector_made (madeK zs (stp zs kk)) (nxt zs (stp zs kk) 9) (1 + nxt zs kk 900) 0 (madeP zs (stp zs kk))
      have hN1 := HN.out wr g kk hst.dice
      have hR1 := fun W hW => HM.out W g (stp zs kk) kk hW
      unfold MadePost at hR1
      generalize madeK zs (stp zs kk) = K at hgd hS hR1
      generalize nxt zs (stp zs kk) 9 = b at hgd hS hR1
      generalize madeP zs (stp zs kk) = p at hgd hS hR1
      unfold NextPost at hN1
      generalize nxt zs kk 900 = V at hgd hS hR1 hN1 hrg
      have hVI := hrg.1
      have hVI2 := hrg.2
      obtain ⟨SS, hSS⟩ : ∃ SS, SS = sect (mk K b (1 + V) 0 p) := ⟨_, rfl⟩
      rw [show (⟨(RecMath.encL (mk K b (1 + V) 0 p)).toArray⟩ : ByteArray) = SS from hSS.symm] at hS
      have hcm := recCells_mk K b (1 + V) 0 p
      have N1 := Lib.hid hN1
      have R1 := Lib.hid hR1
      have HS := Lib.hid hS
      have HG := Lib.hid hgd
      have HC := Lib.hid hcm
      have HSS := Lib.hid hSS
      clear hN1 hR1 hS hrg hgd hcm hSS
      go_wp2_with (first
        | (go_at_call 16; ((with_reducible refine N1.out.mono ?_); rintro e w3 ⟨rfl, hd3, hg3, hs3⟩; have st3 := hst.made hd3 hg3))
        | (go_at_call 15; ((with_reducible refine (R1.out _ hd3).mono ?_); rintro e w4 ⟨rfl, hd4, hg4⟩; have st4 := st3.made hd4 hg4)))
      have hx5 := heap_alloc_new w4 (.cells #[.int .i64 K, .int .i64 b, .int .i64 (1 + V), .int .i64 0, .string p] 24)
      have st5 := (st4.al (.cells #[.int .i64 K, .int .i64 b, .int .i64 (1 + V), .int .i64 0, .string p] 24)).on (Below.refl _ _).drew
      have hu5 := own_fresh st4.r
      have hs5 := own_fresh st4.s
      have b4 := (hb.grown hg3 hb.size (fun k hk => by cases hk; exact hgw)).grown hg4 (by have := hb.size; have := hg3.size; omega) (fun k hk => by cases hk; exact hgw)
      have b5 := (b4.alloc b4.size (.cells #[.int .i64 K, .int .i64 b, .int .i64 (1 + V), .int .i64 0, .string p] 24)).drew
      have hx5' : (w4.alloc (.cells #[.int .i64 K, .int .i64 b, .int .i64 (1 + V), .int .i64 0, .string p] 24)).drew.heap[w4.heap.size]? = some (.cells #[.int .i64 K, .int .i64 b, .int .i64 (1 + V), .int .i64 0, .string p] 24 (0, 0)) := hx5
      clear hx5 hd3 hg3 hs3 st3 hd4 hg4 st4 b4 hb hst
      refine Plan.start (RowAt w4.heap.size K b (1 + V) 0 p) [(0, true), (1, true), (4, true), (5, true), (2, false), (3, false), (6, false), (7, false), (8, false), (9, true), (10, true)] (by kernel_rfl) (by kernel_rfl) (by kernel_rfl) (by kernel_rfl) (rowAt_of hx5') ?_
      generalize (w4.alloc (.cells #[.int .i64 K, .int .i64 b, .int .i64 (1 + V), .int .i64 0, .string p] 24)).drew = W5 at hx5' b5 st5 ⊢
      generalize w4.heap.size = x at hx5' hu5 hs5 ⊢
      simp only [List.map_cons, List.map_nil, List.getElem?_toArray, List.getElem?_cons_zero, List.getElem?_cons_succ]
      repeat (first | (refine Plan.take ?_ (by rfl) ?_ ?_; rotate_left; (· rintro w9 ⟨⟨c0, c1, c2, c3, c4⟩, -⟩; go_simp; (try rw [if_neg (by omega)]); all_goals (with_reducible rfl)); simp only [Act.put, List.setIfInBounds_toArray, List.set_cons_zero, List.set_cons_succ]) | (refine Plan.pass (by rfl) ?_; simp only [Act.put, List.setIfInBounds_toArray, List.set_cons_zero, List.set_cons_succ]))
      have hx6 := row_al hx5' (.cells #[.int .i64 K, .int .i64 b, .int .i64 (1 + V), .int .i64 0, .string p] 24)
      have st6 := st5.al (.cells #[.int .i64 K, .int .i64 b, .int .i64 (1 + V), .int .i64 0, .string p] 24)
      have hq6 := heap_alloc_new W5 (.cells #[.int .i64 K, .int .i64 b, .int .i64 (1 + V), .int .i64 0, .string p] 24)
      have b6 := b5.alloc b5.size (.cells #[.int .i64 K, .int .i64 b, .int .i64 (1 + V), .int .i64 0, .string p] 24)
      refine Plan.make (by rfl) (.slice (some ⟨W5.heap.size, 0, none⟩) 1 1) (W5.alloc (.cells #[.int .i64 K, .int .i64 b, .int .i64 (1 + V), .int .i64 0, .string p] 24)) ?_ (rowAt_of hx6) ?_
      · go_simp
      simp only [Act.put, List.setIfInBounds_toArray, List.set_cons_zero, List.set_cons_succ]
      refine Plan.carry (by rfl) (wp_append_lies _ _ _ 42 (by rfl) (g + 1) 24 i1 _ 5 48 Try.underlying42 hi1 hy0 hy1 hy2 (by rfl) (by decide) _ R.length (recs R) (by rfl) st6.r ⟨W5.heap.size, 0, none⟩ 1 1 (recCells (mk K b (1 + V) 0 p)) (by rfl) (by rfl) (by rw [HC.out]; exact World.news_of_block hq6) (recs_cells _) (by decide) (by unfold maxLen; omega) (by omega) (by have := dice_lt st6.dice; omega) _ rfl ?_)
      intro g7 c7 w7 hown7 hgrow7 hat7 hlt7
      have hx7 := row_grows hx6 hgrow7 hu5
      have st7 := st6.appR hown7 hgrow7
      have b7 := below_grows b6 st6.r (by omega) b6.size hgrow7
      clear hx6 st6 hq6 b6 hown7 hgrow7 hat7 hlt7 hx5' b5 st5
      refine ⟨rowAt_of hx7, ?_⟩
      simp only [Act.put, List.setIfInBounds_toArray, List.set_cons_zero, List.set_cons_succ]
      refine Plan.call (by rfl) 14 _ ?_ (HS.out _) ?_
      · go_simp
      rintro e w8 ⟨rfl, hb8⟩
      have hx8 := row_on hb8 hx7 (row5 hx7).1
      have st8 := st7.on hb8
      have b8 := b7.trans (hb8.mono b7.size)
      refine ⟨_, rfl, rowAt_of hx8, ?_⟩
      simp only [Act.put, List.setIfInBounds_toArray, List.set_cons_zero, List.set_cons_succ]
      have hx9 := row_al hx8 (.cells #[.string SS] 9)
      have st9 := st8.al (.cells #[.string SS] 9)
      have hq9 := heap_alloc_new w8 (.cells #[.string SS] 9)
      have b9 := b8.alloc b8.size (.cells #[.string SS] 9)
      refine Plan.make (by rfl) (.slice (some ⟨w8.heap.size, 0, none⟩) 1 1) (w8.alloc (.cells #[.string SS] 9)) ?_ (rowAt_of hx9) ?_
      · go_simp
      simp only [Act.put, List.setIfInBounds_toArray, List.set_cons_zero, List.set_cons_succ]
      refine Plan.carry (by rfl) (wp_append_lies _ _ _ 22 (by rfl) (g + 1) 9 i0 _ 1 16 Try.underlying22 hi0 hz0 hz1 hz2 (by rfl) (by decide) _ (R.map sect).length (strs (R.map sect)) (by rfl) st9.s ⟨w8.heap.size, 0, none⟩ 1 1 [.string SS] (by rfl) (by rfl) (World.news_of_block hq9) (by simp [Value.oneCell']) (by decide) (by unfold maxLen; omega) (by omega) (by have := dice_lt st9.dice; omega) _ rfl ?_)
      intro g10 c10 w10 hown10 hgrow10 hat10 hlt10
      have hx10 := row_grows hx9 hgrow10 hs5
      have st10 := st9.appS hown10 hgrow10
      have b10 := below_grows b9 st9.s (by omega) b9.size hgrow10
      clear hx7 st7 b7 hb8 hx8 st8 b8 hx9 st9 hq9 b9 hown10 hgrow10 hat10 hlt10
      refine ⟨rowAt_of hx10, ?_⟩
      simp only [Act.put, List.setIfInBounds_toArray, List.set_cons_zero, List.set_cons_succ]
      repeat (first | (refine Plan.take ?_ (by rfl) ?_ ?_; rotate_left; (· rintro w9 ⟨⟨c0, c1, c2, c3, c4⟩, -⟩; go_simp; (try rw [if_neg (by omega)]); all_goals (with_reducible rfl)); simp only [Act.put, List.setIfInBounds_toArray, List.set_cons_zero, List.set_cons_succ]) | (refine Plan.pass (by rfl) ?_; simp only [Act.put, List.setIfInBounds_toArray, List.set_cons_zero, List.set_cons_succ]))
      refine Plan.ends ?_
      go_wp2_with fail
      go_roundw
      case rel =>
        refine ⟨j, stp3 zs (stp zs kk), R ++ [mk K b (1 + V) 0 p], by first | rfl | go_num, by simp; omega, ?_, ?_, b10⟩
        · rw [List.map_append, List.map_singleton, ← HSS.out]
          rw [List.length_map] at st10
          exact st10
        · intro r hr
          rcases List.mem_append.1 hr with hr | hr
          · exact hgood r hr
          · rw [List.mem_singleton.1 hr]; exact HG.out
      case measure => simp [intOf]
    | zero =>
      have hN0 : 0 < R.length := by omega
      have hN20 : R.length ≤ 20 := by omega
      clear hjR
      have hsn : (R.map sect).length = R.length := by simp
      have hso := hst.s
      have hro := hst.r
      rw [hsn] at hso
      obtain ⟨-, a2, c2, rfl, hS⟩ := owns_strs hso (fun s hs => by obtain ⟨r, hr, rfl⟩ := List.mem_map.1 hs; rw [sect_size (hgood r hr).1]; unfold maxLen; omega)
      obtain ⟨x2, rfl, -⟩ := hS.some hN0
      obtain ⟨gu, cu, rfl, hgu, hguw⟩ := owns_recs hro hN0
      obtain ⟨q, hq1, hq2⟩ : ∃ q : Nat, at' % (R.length : Int) = (q : Int) ∧ q < R.length := ⟨(at' % (R.length : Int)).toNat, by have := Int.emod_nonneg at' (b := (R.length : Int)) (by omega); omega, by have := Int.emod_lt_of_pos at' (b := (R.length : Int)) (by omega); have := Int.emod_nonneg at' (b := (R.length : Int)) (by omega); omega⟩
      have hmod := mod_any at' (R.length : Int) (by omega) (by omega)
      rw [hq1] at hmod
      have hqI : (q : Int) < (R.length : Int) := by omega
      have hq0 : (0 : Int) ≤ (q : Int) := by omega
      obtain ⟨rq, hrq⟩ : ∃ rq, R[q] = rq := ⟨_, rfl⟩
      have hrq' : R[q]? = some rq := by rw [List.getElem?_eq_getElem hq2, hrq]
      have h5 := recs_five hro hrq'
      have c1 : wr.cell? ⟨gu, q * 5 + 1, none⟩ = some (.int .i64 rq.block) := h5 1 (by decide)
      have HQ := Lib.hid hmod
      clear hmod h5
      by_cases hB : rq.block = blk
      · have hB1 : (rq.block == blk) = true := by simp [hB]
        clear hB hS hst hso hro hgood hrq hrq'
        go_wp2_with (first
          | (go_at_call 13; ((with_reducible refine (HQ.out _).mono ?_); rintro e w8 ⟨rfl, rfl⟩))
          | (go_at_call 6; ((with_reducible refine (AW.out _).mono ?_); rintro e w9 ⟨rfl, hb9⟩)))
        go_ret
        exact ⟨rfl, hb.trans (hb9.mono hb.size)⟩
      · have hB1 : (rq.block == blk) = false := by simp [hB]
        have hT : (R.map sect).set q (sect (SumMath.other rq blk)) = (R.set q (SumMath.other rq blk)).map sect := by rw [List.map_set]
        obtain ⟨e1, e2, hp, hf⟩ := SumMath.other_makes hgood q hq2 (by omega) blk hk0 hk1 (by rw [hrq]; exact hB)
        rw [hrq] at e2 hp hf
        have hsz : ∀ s ∈ R.map sect, s.size ≤ maxLen := fun s hs => by obtain ⟨r, hr, rfl⟩ := List.mem_map.1 hs; rw [sect_size (hgood r hr).1]; unfold maxLen; omega
        have hgq := hgood rq (List.mem_of_getElem? hrq')
        have hFz : (sect (SumMath.other rq blk)).size ≤ maxLen := by rw [sect_size (SumMath.check_other hgq.1 blk hk0 hk1)]; unfold maxLen; omega
        have hsec := sector_made rq.kind blk rq.version rq.move ⟨rq.payload.toArray⟩
        rw [show (⟨(RecMath.encL (mk rq.kind blk rq.version rq.move ⟨rq.payload.toArray⟩)).toArray⟩ : ByteArray) = sect (SumMath.other rq blk) from rfl] at hsec
        have f1 := fits_self e1
        have f2 := fits_self e2
        have M1 := fun W (h : IsStrs W (some x2) R.length c2 (R.map sect)) => make_says (some x2) R.length c2 (R.map sect) W h
        have M2 := fun W g7 c7 (h : IsStrs W (some ⟨g7, 0, none⟩) R.length c7 ((R.map sect).set q (sect (SumMath.other rq blk)))) => make_says (some ⟨g7, 0, none⟩) R.length c7 _ W h
        rw [bytes_sect, e1] at M1
        rw [hT, bytes_sect, e2] at M2
        generalize SumMath.makeR (R.map RecMath.encL) = r1 at M1 f1 hp hf
        generalize SumMath.makeR ((R.set q (SumMath.other rq blk)).map RecMath.encL) = r2 at M2 f2 hp
        have hre : ∀ (r : RecMath.Rec) l, SumMath.fits ⟨r.kind, r.block, r.version, r.move, (⟨r.payload.toArray⟩ : ByteArray).data.toList⟩ l = SumMath.fits r l := fun r l => by rw [toList_mk]
        have V1 := fun W (h : IsStrs W (some x2) R.length c2 (R.map sect)) => verify_says r1.kind r1.block r1.version r1.move ⟨r1.payload.toArray⟩ (some x2) R.length c2 (R.map sect) W h
        have V2 := fun W g7 c7 (h : IsStrs W (some ⟨g7, 0, none⟩) R.length c7 ((R.map sect).set q (sect (SumMath.other rq blk)))) => verify_says r2.kind r2.block r2.version r2.move ⟨r2.payload.toArray⟩ (some ⟨g7, 0, none⟩) R.length c7 _ W h
        have V3 := fun W g7 c7 (h : IsStrs W (some ⟨g7, 0, none⟩) R.length c7 ((R.map sect).set q (sect (SumMath.other rq blk)))) => verify_says r1.kind r1.block r1.version r1.move ⟨r1.payload.toArray⟩ (some ⟨g7, 0, none⟩) R.length c7 _ W h
        rw [hre, bytes_sect, f1] at V1
        rw [hre, hT, bytes_sect, f2] at V2
        rw [hre, hT, bytes_sect, hf] at V3
        have hpp : ((⟨r1.payload.toArray⟩ : ByteArray).toList == (⟨r2.payload.toArray⟩ : ByteArray).toList) = false := by
          rw [eq_bytes _ _ _ _ (toList_mk _) (toList_mk _)]
          exact beq_eq_false_iff_ne.2 hp
        clear hre f1 f2 hp hf e1 e2
        rw [← hT] at M2 V2 V3
        simp only [recV] at M1 M2
        generalize r1.kind = k1 at M1 V1 V3
        generalize r1.block = b1 at M1 V1 V3
        generalize r1.version = v1 at M1 V1 V3
        generalize r1.move = m1 at M1 V1 V3
        generalize (⟨r1.payload.toArray⟩ : ByteArray) = p1 at M1 V1 V3 hpp
        generalize r2.kind = k2 at M2 V2
        generalize r2.block = b2 at M2 V2
        generalize r2.version = v2 at M2 V2
        generalize r2.move = m2 at M2 V2
        generalize (⟨r2.payload.toArray⟩ : ByteArray) = p2 at M2 V2 hpp
        have hone := fun w1 (hb1 : Below wr.heap.size wr w1) row => changed_one (w0 := w) hso hsz hro hrq' blk hb (by omega) hb1 row
        have hst' := strs_get (List.getElem?_eq_getElem (show q < (R.map sect).length by simpa using hq2))
        have hother : (R.set q (SumMath.other rq blk))[q]? = some (SumMath.other rq blk) := List.getElem?_set_self hq2
        generalize hF : sect (SumMath.other rq blk) = F at hsec M2 V2 V3 hFz
        have hotr : SumMath.other rq blk = ⟨rq.kind, blk, rq.version, rq.move, rq.payload⟩ := rfl
        have H1 := Lib.hid M1
        have H2 := Lib.hid M2
        have W1 := Lib.hid V1
        have W2 := Lib.hid V2
        have W3 := Lib.hid V3
        have HS := Lib.hid hsec
        have HS0 := Lib.hid hS
        have H01 := Lib.hid hone
        have HST := Lib.hid hst'
        have HOT := Lib.hid hother
        have HZ := Lib.hid hsz
        have HFZ := Lib.hid hFz
        have zb := hb.size
        clear M1 M2 V1 V2 V3 hsec hS hone hst' hother hsz hFz hT hgood hst hso hro hrq hrq' hF hotr hgq hB
        go_wp2_with (first
          | (go_at_call 13; ((with_reducible refine (HQ.out _).mono ?_); rintro e w8 ⟨rfl, rfl⟩))
          | (go_at_call 7; ((with_reducible refine (H1.out _ HS0.out).mono ?_); rintro e w1 ⟨rfl, hb1⟩; obtain ⟨j1, j2, j3, j4, j5, j6, j7, j8, j9, j10, j11⟩ := H01.out w1 hb1 #[.int .i64 k1, .int .i64 b1, .int .i64 v1, .int .i64 m1, .string p1]))
          | (at_builtin; refine wpList_append_lies _ rfl _ _ 22 rfl (w1.heap.size + 1) 9 i0 (.string ByteArray.empty) 1 16 Try.underlying22 hi0 hz0 hz1 hz2 rfl (by decide) _ 0 [] (by rfl) j4 x2 R.length c2 (strs (R.map sect)) rfl (by rw [strs_length, List.length_map, Nat.mul_one]) (strs_news j3) (strs_cells _) hN0 (by unfold maxLen; omega) (by omega) (by rw [j8]; omega) _ rfl ?_; intro g7 c7 w7 hown7 hgrow7 hat7 hlt7; have O7 := own_copy hown7; obtain ⟨l0, l1, l2, l3, l4⟩ := five_other (kept_far j5 hgrow7 (Nat.lt_succ_of_lt j9)) HOT.out)
          | (go_at_call 14; ((with_reducible refine (HS.out _).mono ?_); rintro e w8 ⟨rfl, hb8⟩; have K8 := own_cell (owns_keep O7 hb8) HST.out; obtain ⟨t1, t2, t3, t4, t5⟩ := changed_two (w0 := w) (q := q) j10 HZ.out j11 j6 j8 j7 (by have := hb1.size; omega) hgrow7 O7 hb8 F HFZ.out))
          | (go_at_call 7; ((with_reducible refine (H2.out _ _ _ t3).mono ?_); rintro e w10 ⟨rfl, hb10⟩; have hx10 := row_al (row_on hb10 t4 (lt_of_block t4)) (.cells #[.int .i64 k2, .int .i64 b2, .int .i64 v2, .int .i64 m2, .string p2] 24); have hy10 := heap_alloc_new w10 (.cells #[.int .i64 k2, .int .i64 b2, .int .i64 v2, .int .i64 m2, .string p2] 24); obtain ⟨x10, a0, a1, a2, a3, a4⟩ := row5 hx10; obtain ⟨y10, d0, d1, d2, d3, d4⟩ := row5 hy10; have B10 := hb10.alloc hb10.size (.cells #[.int .i64 k2, .int .i64 b2, .int .i64 v2, .int .i64 m2, .string p2] 24); have s10 := t2.on B10 (Nat.le_refl _); have t10 := t3.on B10 (Nat.le_refl _); have u10 := t5.trans (B10.mono t5.size)))
          | (go_at_call 9; ((with_reducible refine (W1.out _ s10).mono ?_); rintro e w11 ⟨rfl, hb11⟩; have hx11 := row_on hb11 hx10 x10; have hy11 := row_on hb11 hy10 y10; obtain ⟨x11, a0, a1, a2, a3, a4⟩ := row5 hx11; obtain ⟨y11, d0, d1, d2, d3, d4⟩ := row5 hy11; have t11 := t10.on hb11 (Nat.le_refl _); have u11 := u10.trans (hb11.mono u10.size)))
          | (go_at_call 9; ((with_reducible refine (W2.out _ _ _ t11).mono ?_); rintro e w12 ⟨rfl, hb12⟩; have hx12 := row_on hb12 hx11 x11; obtain ⟨x12, a0, a1, a2, a3, a4⟩ := row5 hx12; have t12 := t11.on hb12 (Nat.le_refl _); have u12 := u11.trans (hb12.mono u11.size)))
          | (go_at_call 9; ((with_reducible refine (W3.out _ _ _ t12).mono ?_); rintro e w13 ⟨rfl, hb13⟩; have u13 := u12.trans (hb13.mono u12.size)))
          | (go_at_call 6; ((with_reducible refine (AW.out _).mono ?_); rintro e w14 ⟨rfl, hb14⟩; have u14 := u13.trans (hb14.mono u13.size))))
        go_ret
        exact ⟨rfl, u14⟩
theorem u32_range {n : Int} (h : (Lit.int .u32 n).wf = true) : 0 ≤ n ∧ n < 4294967296 := by
  simp [Lit.wf, IntKind.min, IntKind.max, IntKind.bits, IntKind.signed] at h
  omega
theorem sumChanged_all (a : Option Addr) (len cap : Nat) (z : List Int) (many at' blk : Int) (hw : (Lit.int .u32 blk).wf = true) (w : World) (hrow : IsRow .i64 w a len cap z) :
    Calls Try.prog 5 #[.slice a len cap, .int .i64 many, .int .i64 at', .int .u32 blk] w fun e w' => e = .returned (.bool true) ∧ Below w.heap.size w w' := by
  by_cases h : len ≤ 300
  · exact sumChanged_go a len cap z many at' blk w hrow h (u32_range hw).1 (u32_range hw).2
  · exact sumChanged_light a len cap many at' blk w (by omega)
end Go.Proofs.Ytjihkcjoaefppaa
