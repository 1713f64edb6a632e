/- Texts that belong together, part 6. -/
import Derived.Test.YtlplomofgbmgaaaPack5

/- The walks of the decoder: Decode, and the document's own, for any bytes. -/
namespace Go.Proofs.Ytlplomofgbmgaaa
open Go.RowKit Plan

theorem rec_info : (Try.prog.info? 69).map (·.size) = some 5 := by kernel_rfl
theorem ext_list (s : ByteArray) (a b : Nat) : (s.extract a b).data.toList = (s.data.toList.drop a).take (b - a) := by
  simp [List.extract]
theorem ext_seg (s : ByteArray) (a b k : Nat) (h : b = a + k) : (s.extract a b).data.toList = RecMath.seg s.data.toList a k := by
  rw [ext_list, h, Nat.add_sub_cancel_left]
  rfl
theorem ext_36 (s : ByteArray) : (s.extract 0 36).data.toList = s.data.toList.take 36 := by
  rw [ext_list]; rfl
theorem zero_rec : recV RecMath.Rec.zero = #[.int .i64 0, .int .i64 0, .int .i64 0, .int .i64 0, .string ⟨#[]⟩] := rfl
theorem seal_same (s : ByteArray) (hs : s.size = 40) (h : RecMath.field s.data.toList 36 4 = CrcMath.crc 0 (s.data.toList.take 36)) : (⟨(RecMath.sealL (s.data.toList.take 36)).toArray⟩ : ByteArray) = s := by
  rw [(RecMath.seal_iff (list40 hs)).2 h]
theorem seal_other (s : ByteArray) (hs : s.size = 40) (h : RecMath.field s.data.toList 36 4 ≠ CrcMath.crc 0 (s.data.toList.take 36)) : (s.toList == (⟨(RecMath.sealL (s.data.toList.take 36)).toArray⟩ : ByteArray).toList) = false := by
  rw [ByteArray.toList_eq, ByteArray.toList_eq, toList_mk, beq_eq_false_iff_ne]
  intro e
  exact h ((RecMath.seal_iff (list40 hs)).1 e.symm)
/-- what the decoder reads, as the model has it -/
theorem read_mk (s : ByteArray) (n : Nat) (hn : n = min (RecMath.field s.data.toList 3 1) 20) :
    RecMath.read s.data.toList = mk (RecMath.field s.data.toList 2 1 : Nat) (RecMath.field s.data.toList 4 4 : Nat) (RecMath.field s.data.toList 8 6 : Nat) (RecMath.field s.data.toList 14 1 : Nat) (s.extract 16 (16 + n)) := by
  subst hn
  unfold RecMath.read mk
  rw [ext_seg s 16 _ (min (RecMath.field s.data.toList 3 1) 20) rfl]
  rfl
theorem pl_size (s : ByteArray) (hs : s.size = 40) (n : Nat) (hn : n ≤ 20) : (s.extract 16 (16 + n)).size = n := by
  rw [← size_list, ext_seg s 16 _ n rfl, RecMath.seg_len (list40 hs) _ _ (by omega)]
theorem eq_bytes (a b : ByteArray) (l m : List UInt8) (ha : a.data.toList = l) (hb : b.data.toList = m) : (a.toList == b.toList) = (l == m) := by
  rw [ByteArray.toList_eq, ByteArray.toList_eq, ha, hb]
theorem form_bits (s : ByteArray) (n : Nat) (hn : n = min (RecMath.field s.data.toList 3 1) 20) : RecMath.formB s.data.toList =
    (((s.extract 0 2).toList == (⟨#[90, 65]⟩ : ByteArray).toList) && (RecMath.field s.data.toList 3 1 == n) && (RecMath.field s.data.toList 15 1 == 0) && ((s.extract (16 + n) 36).toList == (⟨(List.replicate (20 - n) (0 : UInt8)).toArray⟩ : ByteArray).toList)) := by
  rw [eq_bytes _ _ (s.data.toList.take 2) [90, 65] (by rw [ext_list]; rfl) rfl, eq_bytes _ _ (RecMath.seg s.data.toList (16 + n) (20 - n)) (List.replicate (20 - n) 0) (ext_seg s _ _ _ (by omega)) (toList_mk _)]
  subst hn
  rfl
theorem back_bytes (s : ByteArray) : (⟨s.data.toList.toArray⟩ : ByteArray) = s := by simp
theorem bits_if (w : World) (M PD Z : ByteArray) (F3 n F15 : Nat) (B : Bool) (h : B = ((M.toList == (⟨#[90, 65]⟩ : ByteArray).toList) && (F3 == n) && (F15 == 0) && (PD.toList == Z.toList))) :
    (if M.toList = [90, 65] then
      if (F3 : Int) = (n : Int) then
        if F15 = 0 then
          if PD.toList = Z.toList then Result.ok (Next.value (Value.bool false)) w
          else Result.ok (Next.value (Value.bool true)) w
        else Result.ok (Next.value (Value.bool true)) w
      else Result.ok (Next.value (Value.bool true)) w
    else Result.ok (Next.value (Value.bool true)) w) =
    Result.ok (Next.value (Value.bool (!B))) w := by
  have e : (⟨#[90, 65]⟩ : ByteArray).toList = [90, 65] := by rw [ByteArray.toList_eq]
  rw [h, e]
  by_cases h1 : M.toList = [90, 65]
  · by_cases h2 : F3 = n
    · by_cases h3 : F15 = 0
      · by_cases h4 : PD.toList = Z.toList
        · simp [h1, h2, h3, h4]
        · simp [h1, h2, h3, h4]
      · simp [h1, h2, h3]
    · have h2' : ¬ (F3 : Int) = (n : Int) := by omega
      simp [h1, h2, h2']
  · simp [h1]
end Go.Proofs.Ytlplomofgbmgaaa

/- The walk of the document's own decoder, for any bytes. -/
namespace Go.Proofs.Ytlplomofgbmgaaa
open Go.RowKit Plan

theorem sum36 (s : ByteArray) (hs : s.size = 40) (w : World) :
    Calls Try.prog 64 #[.string (s.extract 0 36)] w fun e w' => e = .returned (.int .u32 (CrcMath.crc 0 (s.data.toList.take 36) : Nat)) ∧ w = w' := by
  have := refsum_any (s.extract 0 36) (by rw [← size_list, ext_36, List.length_take, size_list]; unfold maxLen; omega) w
  rwa [ext_36] at this
end Go.Proofs.Ytlplomofgbmgaaa

/- Records that lie in memory, and sectors that are written and read. -/
namespace Go.Proofs.Ytlplomofgbmgaaa
open Go.RowKit Plan

theorem recV_mk (k b v m : Int) (p : ByteArray) : recV (mk k b v m p) = #[.int .i64 k, .int .i64 b, .int .i64 v, .int .i64 m, .string p] := by
  simp only [recV, mk]
/-- the cells of a record that lies in memory -/
theorem row5 {w : World} {g : Nat} {a b c d e : Value} {t : TypeId} {fr : Nat × Nat} (h : w.heap[g]? = some (.cells #[a, b, c, d, e] t fr)) :
    g < w.heap.size ∧ w.cell? ⟨g, 0, none⟩ = some a ∧ w.cell? ⟨g, 1, none⟩ = some b ∧ w.cell? ⟨g, 2, none⟩ = some c ∧ w.cell? ⟨g, 3, none⟩ = some d ∧ w.cell? ⟨g, 4, none⟩ = some e :=
  ⟨(Array.getElem?_eq_some_iff.1 h).1, cell_of_row _ _ 0 _ _ _ h, cell_of_row _ _ 1 _ _ _ h, cell_of_row _ _ 2 _ _ _ h, cell_of_row _ _ 3 _ _ _ h, cell_of_row _ _ 4 _ _ _ h⟩
/-- a record's row stays where nothing that was there has changed -/
theorem row_on {B g : Nat} {W w1 : World} {x : Option Obj} (hb : Below B W w1) (h : W.heap[g]? = x) (hg : g < B) : w1.heap[g]? = x := heap_old hb hg h
theorem row_al {g : Nat} {w : World} {o : Obj} (h : w.heap[g]? = some o) (o2 : Obj) : (w.alloc o2).heap[g]? = some o := (Below.heap_alloc _ _ _ (Array.getElem?_eq_some_iff.1 h).1).trans h
theorem setCell_row {w : World} {g : Nat} {cur : Array Value} {t : TypeId} {fr : Nat × Nat} (hg : w.heap[g]? = some (.cells cur t fr)) (i : Nat) (v : Value) :
    (w.setCell ⟨g, i, none⟩ v).heap[g]? = some (.cells (cur.setIfInBounds i v) t fr) := by
  rw [setCell_eq_setRow w g i cur t fr v hg]
  exact setRow_heap w g cur _ t fr hg
end Go.Proofs.Ytlplomofgbmgaaa

/- A list of strings that lies in memory and is only read. -/
namespace Go.Proofs.Ytlplomofgbmgaaa
open Go.RowKit Plan

/-- a list of strings that came in, or that the call has made -/
def IsStrs (w : World) (a : Option Addr) (len cap : Nat) (zs : List ByteArray) : Prop :=
  (a = none ∧ len = 0 ∧ cap = 0 ∧ zs = []) ∨
  ∃ x, a = some x ∧ len ≤ cap ∧ cap ≤ maxLen ∧ zs.length = len ∧ (∀ (i : Nat) s, zs[i]? = some s → w.cell? (x.add i) = some (.string s) ∧ s.size ≤ maxLen)
theorem add_block (x : Addr) (i : Nat) : (x.add i).block = x.block := by unfold Addr.add; split <;> rfl
theorem IsStrs.on {B : Nat} {w w' : World} {a : Option Addr} {len cap : Nat} {zs : List ByteArray} (h : IsStrs w a len cap zs) (hb : Below B w w') (hB : w.heap.size ≤ B) : IsStrs w' a len cap zs := by
  rcases h with h | ⟨x, h1, h2, h3, h4, h5⟩
  · exact .inl h
  · refine .inr ⟨x, h1, h2, h3, h4, fun i s hi => ⟨?_, (h5 i s hi).2⟩⟩
    have hc := (h5 i s hi).1
    have hlt := block_lt_of_cell hc
    rw [hb.cell (by omega), hc]
theorem IsStrs.length {w : World} {a : Option Addr} {len cap : Nat} {zs : List ByteArray} (h : IsStrs w a len cap zs) : zs.length = len := by
  rcases h with ⟨_, rfl, _, rfl⟩ | ⟨x, _, _, _, h4, _⟩
  · rfl
  · exact h4
theorem IsStrs.some {w : World} {a : Option Addr} {len cap : Nat} {zs : List ByteArray} (h : IsStrs w a len cap zs) (h0 : 0 < len) : ∃ x, a = some x ∧ (∀ (i : Nat) s, zs[i]? = some s → w.cell? (x.add i) = some (.string s) ∧ s.size ≤ maxLen) := by
  rcases h with ⟨_, rfl, _, _⟩ | ⟨x, h1, _, _, _, h5⟩
  · omega
  · exact ⟨x, h1, h5⟩
def bytesOf (zs : List ByteArray) : List (List UInt8) := zs.map fun s => s.data.toList
end Go.Proofs.Ytlplomofgbmgaaa

/- The walks of the maker's record and sector, for any dice. -/
namespace Go.Proofs.Ytlplomofgbmgaaa
open Go.RowKit Plan

/-- the kind and the payload of the record that is made -/
def madeT (zs : List Int) (k : Nat) : Bool := nxt zs (stp zs (stp zs k)) 4 == 3
def madeK (zs : List Int) (k : Nat) : Int := if madeT zs k = true then 2 else 1
def madeP (zs : List Int) (k : Nat) : ByteArray := if madeT zs k = true then ⟨#[]⟩ else ⟨(valueL (nxt zs (stp zs k) 200).toNat).toArray⟩
def stp3 (zs : List Int) (k : Nat) : Nat := stp zs (stp zs (stp zs k))
def MadePost (w : World) (base g : Nat) (zs : List Int) (k : Nat) (blocks version : Int) (e : Ending) (w' : World) : Prop :=
  e = .returned (.agg #[.int .i64 (madeK zs k), .int .i64 (nxt zs k blocks), .int .i64 version, .int .i64 0, .string (madeP zs k)]) ∧ Dice w' base g zs (stp3 zs k) ∧ w.grownBy w' (some g)
/-- a record that is made can be encoded -/
theorem made_ok (zs : List Int) (k : Nat) (blocks version : Int) (h1 : 1 ≤ blocks) (h2 : blocks ≤ 4294967296) (h3 : 0 ≤ version) (h4 : version ≤ 1099511627776) : RecMath.checkE (mk (madeK zs k) (nxt zs k blocks) version 0 (madeP zs k)) = 0 := by
  have hr := nxt_range zs k blocks h1
  rw [check_eq]
  unfold madeK madeP
  by_cases h : madeT zs k = true
  · rw [if_pos h, if_pos h]
    have hs : (⟨#[]⟩ : ByteArray).size = 0 := rfl
    rw [hs, if_neg (by omega), if_neg (by omega), if_neg (by omega)]
  · rw [if_neg h, if_neg h, size_bytes, value_length, if_neg (by omega), if_neg (by omega), if_neg (by omega)]
theorem grownBy_below {B : Nat} {a b c : World} {r : Option Nat} (h : a.grownBy b r) (h2 : Below B b c) (hB : a.heap.size ≤ B) : a.grownBy c r :=
  ⟨h2.os.trans h.os, h2.tape.trans h.tape, h2.output.trans h.output, Nat.le_trans h.size h2.size, fun k hk hr => (h2.block k (by omega)).trans (h.block k hk hr)⟩
theorem grownBy_refl (a : World) (r : Option Nat) : a.grownBy a r := ⟨rfl, rfl, rfl, Nat.le_refl _, fun _ _ _ => rfl⟩
theorem grownBy_more {a b c : World} {r : Option Nat} (h : a.grownBy b r) (h2 : b.grownBy c r) : a.grownBy c r := grownBy_trans h h2
theorem row_grown {a b : World} {g x : Nat} {o : Obj} (h : a.grownBy b (some g)) (hx : a.heap[x]? = some o) (hne : x ≠ g) : b.heap[x]? = some o :=
  (h.block x (Array.getElem?_eq_some_iff.1 hx).1 (fun e => hne (Option.some.inj e))).trans hx
theorem dice_alloc {w : World} {base g : Nat} {zs : List Int} {k : Nat} (h : Dice w base g zs k) (o : Obj) : Dice (w.alloc o) base g zs k := dice_on h ((Below.refl _ _).alloc (Nat.le_refl _) o) (Nat.le_refl _)
theorem grownBy_setRow (w : World) (x : Nat) (cs : Array Value) : w.grownBy (w.setRow x cs) (some x) :=
  ⟨rfl, rfl, rfl, Nat.le_of_eq (by simp [World.setRow]), fun i _ hne => setRow_other w x i cs (fun e => hne (by rw [e]))⟩
theorem grownBy_setCell (w : World) (p : Addr) (u : Value) : w.grownBy (w.setCell p u) (some p.block) :=
  ⟨rfl, rfl, rfl, Nat.le_of_eq (by simp [World.setCell]), fun i _ hne => Below.heap_setCell w p u i (fun e => hne (by rw [e]))⟩
theorem grownBy_row {a b : World} {r : Option Nat} (h : a.grownBy b r) {x : Nat} (hx : a.heap.size ≤ x) (cs : Array Value) : a.grownBy (b.setRow x cs) r :=
  ⟨h.os, h.tape, h.output, Nat.le_trans h.size (Nat.le_of_eq (by simp [World.setRow])), fun i hi hr => (setRow_other b x i cs (by omega)).trans (h.block i hi hr)⟩
theorem grownBy_cell {a b : World} {r : Option Nat} (h : a.grownBy b r) {p : Addr} (hx : a.heap.size ≤ p.block) (u : Value) : a.grownBy (b.setCell p u) r :=
  ⟨h.os, h.tape, h.output, Nat.le_trans h.size (Nat.le_of_eq (by simp [World.setCell])), fun i hi hr => (Below.heap_setCell b p u i (by omega)).trans (h.block i hi hr)⟩
theorem row_free {w : World} {x : Nat} {cs : Array Value} {t : TypeId} (h : w.heap[x]? = some (.cells cs t (0, 0))) (o : Nat) : w.frozen? ⟨x, o, none⟩ = false := by simp [World.frozen?, h]
set_option maxHeartbeats 1000000 in
theorem made_any (w : World) (base g : Nat) (zs : List Int) (k : Nat) (blocks version : Int) (hd : Dice w base g zs k) (hl : zs.length ≤ 100000) (h1 : 1 ≤ blocks) (h2 : blocks ≤ 4611686018427387904) :
    Calls Try.prog 41 #[.pointer (some ⟨g, 0, none⟩), .int .i64 blocks, .int .i64 version] w (MadePost w base g zs k blocks version) := by
  have hg := dice_lt hd
  have hn1 : ∀ W, Dice W base g zs k → Calls Try.prog 23 #[.pointer (some ⟨g, 0, none⟩), .int .i64 blocks] W (NextPost W base g zs k blocks) := fun W h => next_any W base g zs k blocks h hl h1 h2
  have hn2 : ∀ W, Dice W base g zs (stp zs k) → Calls Try.prog 23 #[.pointer (some ⟨g, 0, none⟩), .int .i64 200] W (NextPost W base g zs (stp zs k) 200) := fun W h => next_any W base g zs _ 200 h hl (by decide) (by decide)
  have hn3 : ∀ W, Dice W base g zs (stp zs (stp zs k)) → Calls Try.prog 23 #[.pointer (some ⟨g, 0, none⟩), .int .i64 4] W (NextPost W base g zs (stp zs (stp zs k)) 4) := fun W h => next_any W base g zs _ 4 h hl (by decide) (by decide)
  have hv : ∀ W, Calls Try.prog 51 #[.int .i64 (nxt zs (stp zs k) 200)] W fun e w' => e = .returned (.string ⟨(valueL (nxt zs (stp zs k) 200).toNat).toArray⟩) ∧ Below W.heap.size W w' := fun W => by
    have hr := nxt_range zs (stp zs k) 200 (by decide)
    have h := value_any (nxt zs (stp zs k) 200).toNat (by omega) W
    rwa [Int.toNat_of_nonneg hr.1] at h
  have hT : (nxt zs (stp zs (stp zs k)) 4 == 3) = madeT zs k := rfl
  have hK : madeK zs k = if madeT zs k = true then 2 else 1 := rfl
  have hP : madeP zs k = if madeT zs k = true then ⟨#[]⟩ else ⟨(valueL (nxt zs (stp zs k) 200).toNat).toArray⟩ := rfl
  have N1 := Lib.hid hn1
  have N2 := Lib.hid hn2
  have N3 := Lib.hid hn3
  have V := Lib.hid hv
  have D := Lib.hid (dice_alloc hd (.cells #[.int .i64 0, .int .i64 0, .int .i64 0, .int .i64 0, .string ⟨#[]⟩] 69))
  clear hn1 hn2 hn3 hv
  have HK := Lib.hid hK
  have HP := Lib.hid hP
  clear hK hP
  cases hB : madeT zs k
  · have HB := Lib.hid hB
    rw [hB] at hT
    clear hB
    go_enter Try.func41, Try.ntmps41
    go_wp2_with (first
      | (go_at_call 23; ((with_reducible refine (N1.out _ D.out).mono ?_); rintro e w1 ⟨rfl, hd1, hg1, hs1⟩; have r1 := row_grown hg1 (heap_alloc_new w _) (by omega); have t1 : w1.heap.size = w.heap.size + 1 := hs1.trans (World.size_alloc _ _)))
      | (go_at_call 23; ((with_reducible refine (N2.out _ hd1).mono ?_); rintro e w2 ⟨rfl, hd2, hg2, hs2⟩; have r2 := row_grown hg2 r1 (by omega)))
      | (go_at_call 51; ((with_reducible refine (V.out _).mono ?_); rintro e w3 ⟨rfl, hb3⟩; have hd3 := dice_on hd2 hb3 (Nat.le_refl _); have hz := dice_lt hd3; have t3 := hb3.size; have r3 := row_al (heap_old hb3 (Array.getElem?_eq_some_iff.1 r2).1 r2)))
      | (go_at_call 23; ((with_reducible refine (N3.out _ (dice_alloc hd3 _)).mono ?_); rintro e w4 ⟨rfl, hd4, hg4, hs4⟩; have r4 := row_grown hg4 (r3 _) (by omega); have rr := row_grown hg4 (heap_alloc_new w3 _) (by omega)))
      | ((with_reducible refine Plan.load_lit 69 (.tmp 7) w3.heap.size ?_ rr Try.underlying69 ?_ ?_ ?_); (· rfl); (· rfl); (· exact rec_info); simp only [Act.put, List.setIfInBounds_toArray, List.set_cons_zero, List.set_cons_succ])
      | ((with_reducible refine Plan.store_lit 69 (.tmp 6) _ w.heap.size ?_ r4 ?_ ?_ ?_ ?_ ?_ ?_); rotate_left; (· rfl); (· rfl); (· exact rec_info); (· rfl); (· simp [Value.oneCell']); simp only [Act.put]))
    have G : w.grownBy w4 (some g) := grownBy_trans (grownBy_below (grownBy_trans (grownBy_trans (World.grownBy_alloc w _ _) hg1) hg2) hb3 (by have := hs1; have := hs2; simp at *; omega)) (grownBy_trans (World.grownBy_alloc w3 _ _) hg4)
    refine bodyPost_ret (results_cell_row rfl _ _ _ _ _ _ _ rfl (setRow_heap _ _ _ _ _ _ r4) Try.underlying69 rfl rec_info) rfl ⟨?_, dice_far hd4 (grownBy_setRow w4 _ _) hg, grownBy_row G (Nat.le_refl _) _⟩
    rw [HK.out, HP.out, HB.out]
    rfl
  · have HB := Lib.hid hB
    rw [hB] at hT
    clear hB
    go_enter Try.func41, Try.ntmps41
    go_wp2_with (first
      | (go_at_call 23; ((with_reducible refine (N1.out _ D.out).mono ?_); rintro e w1 ⟨rfl, hd1, hg1, hs1⟩; have r1 := row_grown hg1 (heap_alloc_new w _) (by omega); have t1 : w1.heap.size = w.heap.size + 1 := hs1.trans (World.size_alloc _ _)))
      | (go_at_call 23; ((with_reducible refine (N2.out _ hd1).mono ?_); rintro e w2 ⟨rfl, hd2, hg2, hs2⟩; have r2 := row_grown hg2 r1 (by omega)))
      | (go_at_call 51; ((with_reducible refine (V.out _).mono ?_); rintro e w3 ⟨rfl, hb3⟩; have hd3 := dice_on hd2 hb3 (Nat.le_refl _); have hz := dice_lt hd3; have t3 := hb3.size; have r3 := row_al (heap_old hb3 (Array.getElem?_eq_some_iff.1 r2).1 r2)))
      | (go_at_call 23; ((with_reducible refine (N3.out _ (dice_alloc hd3 _)).mono ?_); rintro e w4 ⟨rfl, hd4, hg4, hs4⟩; have r4 := row_grown hg4 (r3 _) (by omega); have rr := row_grown hg4 (heap_alloc_new w3 _) (by omega); obtain ⟨yy, c0, c1, c2, c3, c4⟩ := row5 rr; have ff := row_free rr; have rr2 := setCell_row (setCell_row rr 0 (.int .i64 2)) 4 (.string ⟨#[]⟩); simp only [List.setIfInBounds_toArray, List.set_cons_succ, List.set_cons_zero] at rr2; have rq := (Below.heap_setCell (w4.setCell ⟨w3.heap.size, 0, none⟩ (.int .i64 2)) ⟨w3.heap.size, 4, none⟩ (.string ⟨#[]⟩) w.heap.size (show w.heap.size ≠ w3.heap.size by omega)).trans ((Below.heap_setCell w4 ⟨w3.heap.size, 0, none⟩ (.int .i64 2) w.heap.size (show w.heap.size ≠ w3.heap.size by omega)).trans r4)))
      | ((with_reducible refine Plan.load_lit 69 (.tmp 7) w3.heap.size ?_ rr2 Try.underlying69 ?_ ?_ ?_); (· rfl); (· rfl); (· exact rec_info); simp only [Act.put, List.setIfInBounds_toArray, List.set_cons_zero, List.set_cons_succ])
      | ((with_reducible refine Plan.store_lit 69 (.tmp 6) _ w.heap.size ?_ rq ?_ ?_ ?_ ?_ ?_ ?_); rotate_left; (· rfl); (· rfl); (· exact rec_info); (· rfl); (· simp [Value.oneCell']); simp only [Act.put]))
    have G : w.grownBy w4 (some g) := grownBy_trans (grownBy_below (grownBy_trans (grownBy_trans (World.grownBy_alloc w _ _) hg1) hg2) hb3 (by have := hs1; have := hs2; simp at *; omega)) (grownBy_trans (World.grownBy_alloc w3 _ _) hg4)
    have hR : w.heap.size ≤ w3.heap.size := by have := hs1; have := hs2; have := hb3.size; simp at *; omega
    have hR2 : g < w3.heap.size := by omega
    have e1 := dice_far (dice_far hd4 (grownBy_setCell w4 ⟨w3.heap.size, 0, none⟩ (.int .i64 2)) hR2) (grownBy_setCell (w4.setCell ⟨w3.heap.size, 0, none⟩ (.int .i64 2)) ⟨w3.heap.size, 4, none⟩ (.string ⟨#[]⟩)) hR2
    have e2 := grownBy_cell (grownBy_cell G (p := ⟨w3.heap.size, 0, none⟩) hR (.int .i64 2)) (p := ⟨w3.heap.size, 4, none⟩) hR (.string ⟨#[]⟩)
    refine bodyPost_ret (results_cell_row rfl _ _ _ _ _ _ _ rfl (setRow_heap _ _ _ _ _ _ rq) Try.underlying69 rfl rec_info) rfl ⟨?_, dice_far e1 (grownBy_setRow _ _ _) hg, grownBy_row e2 (Nat.le_refl _) _⟩
    rw [HK.out, HP.out, HB.out]
    rfl
theorem sector_made (k b v m : Int) (p : ByteArray) (w : World) :
    Calls Try.prog 40 #[.agg #[.int .i64 k, .int .i64 b, .int .i64 v, .int .i64 m, .string p]] w fun e w' => e = .returned (.string ⟨(RecMath.encL (mk k b v m p)).toArray⟩) ∧ Below w.heap.size w w' := by
  have h := refEncode_any k b v m p
  generalize (⟨(RecMath.encL (mk k b v m p)).toArray⟩ : ByteArray) = S at h ⊢
  generalize RecMath.checkE (mk k b v m p) = E at h
  have H := Lib.hid h
  clear h
  go_enter Try.func40, Try.ntmps40
  go_wp2_with (go_at_call 50; ((with_reducible refine (H.out _).mono ?_); rintro e w1 ⟨rfl, hb1⟩))
  go_ret
  exact ⟨rfl, ((Below.refl _ _).alloc (Nat.le_refl _) _).trans (hb1.mono (by simp))⟩
end Go.Proofs.Ytlplomofgbmgaaa

/- Devices that lie in memory and are only read. -/
namespace Go.Proofs.Ytlplomofgbmgaaa
open Go.RowKit Plan ZnsMath

/-- a list of zones -/
def IsZones (w : World) (a : Option Addr) (len cap : Nat) (Z : List Zone) : Prop :=
  (a = none ∧ len = 0 ∧ cap = 0 ∧ Z = []) ∨
  ∃ x, a = some x ∧ len ≤ cap ∧ cap ≤ maxLen ∧ Z.length = len ∧ x.block < w.heap.size ∧ (∀ (i : Nat) z, Z[i]? = some z →
    w.cell? (x.add (i * 3)) = some (.int .i64 z.state) ∧ w.cell? (x.add (i * 3 + 1)) = some (.int .i64 z.durable) ∧
    ∃ sa sl sc, w.cell? (x.add (i * 3 + 2)) = some (.slice sa sl sc) ∧ IsStrs w sa sl sc z.sectors)
theorem IsZones.on {B : Nat} {w w' : World} {a : Option Addr} {len cap : Nat} {Z : List Zone} (h : IsZones w a len cap Z) (hb : Below B w w') (hB : w.heap.size ≤ B) : IsZones w' a len cap Z := by
  rcases h with h | ⟨x, h1, h2, h3, h4, hx, h5⟩
  · exact .inl h
  · refine .inr ⟨x, h1, h2, h3, h4, Nat.lt_of_lt_of_le hx hb.size, fun i z hi => ?_⟩
    obtain ⟨c1, c2, sa, sl, sc, c3, hs⟩ := h5 i z hi
    have hc : ∀ n, w'.cell? (x.add n) = w.cell? (x.add n) := fun n => hb.cell (by rw [add_block]; omega)
    exact ⟨by rw [hc, c1], by rw [hc, c2], sa, sl, sc, by rw [hc, c3], hs.on hb hB⟩
theorem IsZones.length {w : World} {a : Option Addr} {len cap : Nat} {Z : List Zone} (h : IsZones w a len cap Z) : Z.length = len := by
  rcases h with ⟨_, rfl, _, rfl⟩ | ⟨x, _, _, _, h4, _⟩
  · rfl
  · exact h4
/-- a zone of a list -/
theorem IsZones.at {w : World} {a : Option Addr} {len cap : Nat} {Z : List Zone} (h : IsZones w a len cap Z) (i : Nat) (hi : i < len) : ∃ x z, a = some x ∧ Z[i]? = some z ∧
    w.cell? (x.add (i * 3)) = some (.int .i64 z.state) ∧ w.cell? (x.add (i * 3 + 1)) = some (.int .i64 z.durable) ∧
    ∃ sa sl sc, w.cell? (x.add (i * 3 + 2)) = some (.slice sa sl sc) ∧ IsStrs w sa sl sc z.sectors := by
  have hl := h.length
  rcases h with ⟨_, rfl, _, _⟩ | ⟨x, h1, _, _, _, _, h5⟩
  · omega
  · exact ⟨x, Z[i]'(by omega), h1, List.getElem?_eq_getElem _, h5 i _ (List.getElem?_eq_getElem _)⟩
/-- a device as a value -/
abbrev devV (D : Dev) (a : Option Addr) (len cap : Nat) : Value := .agg #[.int .i64 D.size, .int .i64 D.maxOpen, .int .i64 D.maxActive, .slice a len cap]
/-- a zone as a value -/
abbrev zoneV (z : Zone) (a : Option Addr) (len cap : Nat) : Value := .agg #[.int .i64 z.state, .int .i64 z.durable, .slice a len cap]
end Go.Proofs.Ytlplomofgbmgaaa

/- The walks of the document's own opened, active, Counts. -/
namespace Go.Proofs.Ytlplomofgbmgaaa
open Go.RowKit Plan ZnsMath

theorem refOpened_any (s : Int) (w : World) :
    Calls Try.prog 44 #[.int .i64 s] w fun e w' => e = .returned (.bool (openB s)) ∧ w = w' := by
  go_enter Try.func44, Try.ntmps44
  go_wp2
  all_goals
    go_ret
    refine ⟨?_, rfl⟩
    simp [openB, *]
theorem refActive_any (s : Int) (w : World) :
    Calls Try.prog 45 #[.int .i64 s] w fun e w' => e = .returned (.bool (activeB s)) ∧ w = w' := by
  go_enter Try.func45, Try.ntmps45
  go_wp2_with (go_at_call 44; ((with_reducible refine (refOpened_any _ _).mono ?_); rintro e w1 ⟨rfl, rfl⟩))
  all_goals
    go_ret
    refine ⟨?_, rfl⟩
    simp [activeB, *]
theorem countO_snoc (Z : List Zone) (z : Zone) : countO (Z ++ [z]) = countO Z + (if openB z.state = true then 1 else 0) := by
  cases h : openB z.state <;> simp [countO, List.filter_append, h]
theorem countA_snoc (Z : List Zone) (z : Zone) : countA (Z ++ [z]) = countA Z + (if activeB z.state = true then 1 else 0) := by
  cases h : activeB z.state <;> simp [countA, List.filter_append, h]
theorem countO_le (Z : List Zone) : countO Z ≤ Z.length := List.length_filter_le _ _
theorem countA_le (Z : List Zone) : countA Z ≤ Z.length := List.length_filter_le _ _
set_option maxHeartbeats 1000000 in
theorem refCounts_any (D : Dev) (a : Option Addr) (len cap : Nat) (w : World) (hz : IsZones w a len cap D.zones) (hm : len ≤ 9223372036854775807) :
    Calls Try.prog 33 #[devV D a len cap] w fun e w' => e = .returned (.tuple #[.int .i64 (countO D.zones : Nat), .int .i64 (countA D.zones : Nat)]) ∧ Below w.heap.size w w' := by
  have hl := hz.length
  have hat := fun i hi => (hz.on ((Below.refl w.heap.size w).alloc (Nat.le_refl _) (.cells #[.int .i64 D.size, .int .i64 D.maxOpen, .int .i64 D.maxActive, .slice a len cap] 24)) (Nat.le_refl _)).at i hi
  generalize D.zones = Z at *
  have HA := Lib.hid hat
  have HL := Lib.hid hl
  clear hat hl hz
  go_enter Try.func33, Try.ntmps33
  go_wp2_with fail
  go_loop [4, 5, 6] (fun p q c => ∃ k : Nat, c = .int .i64 k ∧ k ≤ len ∧ p = .int .i64 (countO (Z.take k) : Nat) ∧ q = .int .i64 (countA (Z.take k) : Nat)) (fun _ _ c => len - (intOf c).toNat)
  case atStart => exact ⟨0, rfl, by omega, rfl, rfl⟩
  case round =>
    obtain ⟨k, rfl, hk, rfl, rfl⟩ := hrel
    by_cases hlt : k < len
    · obtain ⟨x, z, rfl, hzk, c1, -⟩ := HA.out k hlt
      have hkI : (k : Int) < (len : Int) := by omega
      have hnext : Z.take (k + 1) = Z.take k ++ [z] := by rw [List.take_add_one, hzk]; rfl
      have o1 := countO_snoc (Z.take k) z
      have a1 := countA_snoc (Z.take k) z
      have o2 := countO_le (Z.take k)
      have a2 := countA_le (Z.take k)
      rw [List.length_take] at o2 a2
      rw [← hnext] at o1 a1
      generalize countO (Z.take k) = p at *
      generalize countA (Z.take k) = q at *
      go_wp2_with (first
        | (go_at_call 44; ((with_reducible refine (refOpened_any _ _).mono ?_); rintro e w1 ⟨rfl, rfl⟩))
        | (go_at_call 45; ((with_reducible refine (refActive_any _ _).mono ?_); rintro e w1 ⟨rfl, rfl⟩)))
      all_goals
        go_round
        case rel => exact ⟨k + 1, by go_num, by omega, by rw [o1]; simp [*], by rw [a1]; simp [*]⟩
        case measure => simp [intOf]; omega
    · obtain rfl : k = len := by omega
      have hfull : Z.take k = Z := List.take_of_length_le (by rw [HL.out]; exact Nat.le_refl _)
      rw [hfull]
      go_wp2_with fail
      go_ret2
      exact ⟨rfl, (Below.refl _ _).alloc (Nat.le_refl _) _⟩
end Go.Proofs.Ytlplomofgbmgaaa
