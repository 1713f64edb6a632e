/- The walk of the statement that a copy of a copy has the same block, version and payload, and a move that grows by one each time. -/
import Derived.Test.YthpfkmdnpfgjlaaMakeRecord
namespace Go.Proofs.Ythpfkmdnpfgjlaa
open Go.RowKit Plan

/-- what the loop keeps: the record that was made, and the copy of the last round -/
def CopyRel (w wr : World) (g x : Nat) (k b v : Int) (p : ByteArray) (m : Int) : Prop :=
  wr.heap[g]? = some (.cells #[.int .i64 k, .int .i64 b, .int .i64 v, .int .i64 0, .string p] 23 (0, 0)) ∧
  wr.heap[x]? = some (.cells #[.int .i64 k, .int .i64 b, .int .i64 v, .int .i64 m, .string p] 23 (0, 0)) ∧ Below w.heap.size w wr
theorem copies_light (a : Option Addr) (len cap : Nat) (n : Int) (w : World) (h : 300 < len) :
    Calls Try.prog 7 #[.slice a len cap, .int .u16 n] w fun e w' => e = .returned (.bool true) ∧ Below w.heap.size w w' := by
  have hl := light_any a len cap
  rw [show decide ((len : Int) ≤ 300) = false by simp; omega] at hl
  have HL := Lib.hid hl
  clear hl h
  go_enter Try.func7, Try.ntmps7
  go_wp2_with (first
    | (go_at_call 18; ((with_reducible refine (HL.out _).mono ?_); rintro e w1 ⟨rfl, rfl⟩))
    | (go_at_call 8; ((with_reducible refine (recAwake _).mono ?_); rintro e w2 ⟨rfl, hb2⟩)))
  go_ret
  exact ⟨rfl, hb2⟩
/-- sectors of records that differ in their moves alone -/
theorem enc_move {k b v m m' : Int} {p : ByteArray} (h : RecMath.checkE (mk k b v m p) = 0) (h' : RecMath.checkE (mk k b v m' p) = 0) :
    ((⟨(RecMath.encL (mk k b v m p)).toArray⟩ : ByteArray).toList == (⟨(RecMath.encL (mk k b v m' p)).toArray⟩ : ByteArray).toList) = (m == m') := by
  rw [eq_bytes _ _ _ _ (toList_mk _) (toList_mk _)]
  by_cases hm : m = m'
  · subst hm; simp
  · have hne : RecMath.encL (mk k b v m p) ≠ RecMath.encL (mk k b v m' p) := fun he => hm (by
      have e1 := (RecMath.dec_enc h).2
      have e2 := (RecMath.dec_enc h').2
      rw [he, e2] at e1
      have := congrArg RecMath.Rec.move e1
      simpa [mk] using this.symm)
    rw [beq_eq_false_iff_ne.2 hne, beq_eq_false_iff_ne.2 hm]
theorem made_okm (zs : List Int) (k : Nat) (blocks version m : Int) (h1 : 1 ≤ blocks) (h2 : blocks ≤ 4294967296) (h3 : 0 ≤ version) (h4 : version ≤ 1099511627776) (h5 : 0 ≤ m) (h6 : m ≤ 255) : RecMath.checkE (mk (madeK zs k) (nxt zs k blocks) version m (madeP zs k)) = 0 := by
  have hr := nxt_range zs k blocks h1
  rw [check_eq]
  unfold madeK madeP
  by_cases h : madeT zs k = true
  · rw [if_pos h, if_pos h]
    have hs : (⟨#[]⟩ : ByteArray).size = 0 := rfl
    rw [hs, if_neg (by omega), if_neg (by omega), if_neg (by omega)]
  · rw [if_neg h, if_neg h, size_bytes, value_length, if_neg (by omega), if_neg (by omega), if_neg (by omega)]
theorem made_kind (zs : List Int) (k : Nat) : madeK zs k = 1 ∨ madeK zs k = 2 := by
  unfold madeK
  split
  · exact .inr rfl
  · exact .inl rfl
set_option maxHeartbeats 1000000 in
set_option maxRecDepth 20000 in
theorem copies_go (a : Option Addr) (len cap : Nat) (z : List Int) (n : Nat) (w : World) (hrow : IsRow .i64 w a len cap z) (h : len ≤ 300) (hn : n < 65536) :
    Calls Try.prog 7 #[.slice a len cap, .int .u16 n] w fun e w' => e = .returned (.bool true) ∧ Below w.heap.size w w' := by
  have hl := light_any a len cap
  rw [show decide ((len : Int) ≤ 300) = true by simp; omega] at hl
  have hr := roll_any a len cap z w hrow h
  have hz : (z.take len).length ≤ 100000 := by rw [List.length_take]; omega
  generalize z.take len = zs at hr hz
  have hm : ∀ W g, Dice W w.heap.size g zs 0 → Calls Try.prog 21 #[.pointer (some ⟨g, 0, none⟩), .int .i64 9, .int .i64 (1 + (len : Int))] W (MadePost W w.heap.size g zs 0 9 (1 + (len : Int))) := fun W g h => made_any W _ g zs _ 9 _ h hz (by decide) (by decide)
  have hk := made_kind zs 0
  have hok : ∀ m : Int, 0 ≤ m → m ≤ 255 → RecMath.checkE (mk (madeK zs 0) (nxt zs 0 9) (1 + (len : Int)) m (madeP zs 0)) = 0 := fun m h5 h6 => made_okm zs 0 9 (1 + (len : Int)) m (by decide) (by decide) (by omega) (by omega) h5 h6
  have hlen : (len : Int) ≤ 300 := by omega
  have hnI : (n : Int) < 65536 := by omega
  unfold MadePost at hm
  generalize madeK zs 0 = k at hm hk hok
  generalize nxt zs 0 9 = b at hm hok
  generalize madeP zs 0 = p at hm hok
  have hc : ∀ m m' : Int, 0 ≤ m → m ≤ 255 → min (m + 1) 255 = m' → ∀ w, Calls Try.prog 11 #[.agg #[.int .i64 k, .int .i64 b, .int .i64 (1 + (len : Int)), .int .i64 m, .string p]] w fun e w' => e = .returned (.tuple #[.agg #[.int .i64 k, .int .i64 b, .int .i64 (1 + (len : Int)), .int .i64 m', .string p], .bool true]) ∧ Below w.heap.size w w' := fun m m' h1 h2 h3 w => by
    have h := copy_any k b (1 + (len : Int)) m p w
    have ho := copyOk_yes (hok m h1 h2) hk
    rw [copy_yes ho, ho, h3] at h
    exact h
  have he : ∀ m : Int, 0 ≤ m → m ≤ 255 → ∀ w, Calls Try.prog 9 #[.agg #[.int .i64 k, .int .i64 b, .int .i64 (1 + (len : Int)), .int .i64 m, .string p]] w fun e w' => e = .returned (.tuple #[.string ⟨(RecMath.encL (mk k b (1 + (len : Int)) m p)).toArray⟩, .int .i64 0]) ∧ Below w.heap.size w w' := fun m h1 h2 w => by
    have h := encode_any k b (1 + (len : Int)) m p w
    rw [hok m h1 h2] at h
    exact h
  have HL := Lib.hid hl
  have HR := Lib.hid hr
  have HM := Lib.hid hm
  have HOK := Lib.hid hok
  have HC := Lib.hid hc
  have HE := Lib.hid he
  clear hl hr hm hok hc he hrow h hk
  go_enter Try.func7, Try.ntmps7
  go_wp2_with (first
    | (go_at_call 18; ((with_reducible refine (HL.out _).mono ?_); rintro e w1 ⟨rfl, rfl⟩))
    | (go_at_call 19; ((with_reducible refine HR.out.mono ?_); rintro e w1 ⟨g, rfl, hd1, hb1⟩))
    | (go_at_call 21; ((with_reducible refine (HM.out _ _ hd1).mono ?_); rintro e w3 ⟨rfl, hd3, hg3⟩)))
  have hgw := dice_base hd1
  have e3 : Below w.heap.size w w3 := hb1.grown hg3 hb1.size (fun k hk => by cases hk; exact hgw)
  have hrel0 : CopyRel w ((w3.alloc (.cells #[.int .i64 k, .int .i64 b, .int .i64 (1 + (len : Int)), .int .i64 0, .string p] 23)).alloc (.cells #[.int .i64 k, .int .i64 b, .int .i64 (1 + (len : Int)), .int .i64 0, .string p] 23)) w3.heap.size (w3.heap.size + 1) k b (1 + (len : Int)) p 0 :=
    ⟨heap_first _ _ _, heap_second _ _ _, (e3.alloc e3.size _).alloc (by have := e3.size; simp; omega) _⟩
  have hG : w.heap.size ≤ w3.heap.size := e3.size
  generalize (w3.alloc (.cells #[.int .i64 k, .int .i64 b, .int .i64 (1 + (len : Int)), .int .i64 0, .string p] 23)).alloc (.cells #[.int .i64 k, .int .i64 b, .int .i64 (1 + (len : Int)), .int .i64 0, .string p] 23) = W0 at hrel0 ⊢
  generalize w3.heap.size = G at hrel0 hG ⊢
  clear e3 hgw hb1 hd1 hg3 hd3
  go_loopw [7] (fun c wr => ∃ i : Nat, c = .int .i64 i ∧ 1 ≤ i ∧ i ≤ n % 300 + 1 ∧ CopyRel w wr G (G + 1) k b (1 + (len : Int)) p (min ((i : Int) - 1) 255)) (fun c _ => 300 - (intOf c).toNat)
  case atStart => exact ⟨1, rfl, by omega, by omega, hrel0⟩
  case round =>
    obtain ⟨i, rfl, hi1, hi2, h5, h6, hb⟩ := hrel
    by_cases hlt : i ≤ n % 300
    · have hiI : (i : Int) ≤ (n : Int) % 300 := by omega
      obtain ⟨m, hm, hm1, hm2⟩ : ∃ m : Int, min ((i : Int) - 1) 255 = m ∧ 0 ≤ m ∧ m ≤ 255 := ⟨_, rfl, by omega, by omega⟩
      obtain ⟨m', hm', hm1', hm2', hmm⟩ : ∃ m' : Int, min (i : Int) 255 = m' ∧ 0 ≤ m' ∧ m' ≤ 255 ∧ min (m + 1) 255 = m' := ⟨_, rfl, by omega, by omega, by omega⟩
      rw [hm] at h6
      have hmeq : (m == m') = (m == 255) := by
        by_cases e : m = 255
        · have : m' = 255 := by omega
          rw [e, this]
        · have : m ≠ m' := by omega
          rw [beq_eq_false_iff_ne.2 this, beq_eq_false_iff_ne.2 e]
      have hS := enc_move (HOK.out m hm1 hm2) (HOK.out m' hm1' hm2')
      rw [hmeq] at hS
      have E1 := HE.out m hm1 hm2
      have E2 := HE.out m' hm1' hm2'
      have C1 := HC.out m m' hm1 hm2 hmm
      generalize (⟨(RecMath.encL (mk k b (1 + (len : Int)) m p)).toArray⟩ : ByteArray) = S1 at E1 hS
      generalize (⟨(RecMath.encL (mk k b (1 + (len : Int)) m' p)).toArray⟩ : ByteArray) = S2 at E2 hS
      have e1 := Lib.hid E1
      have e2 := Lib.hid E2
      have c1 := Lib.hid C1
      clear E1 E2 C1 hm hmm hmeq
      obtain ⟨y5, -⟩ := row5 h5
      obtain ⟨y6, x0, x1, x2, x3, x4⟩ := row5 h6
      go_wp2_with (first
        | (go_at_call 11; ((with_reducible refine (c1.out _).mono ?_); rintro e w1 ⟨rfl, hb1⟩; have h5a := row_al (row_on hb1 h5 y5) (.cells #[.int .i64 k, .int .i64 b, .int .i64 (1 + (len : Int)), .int .i64 m', .string p] 23); have h6a := row_al (row_on hb1 h6 y6) (.cells #[.int .i64 k, .int .i64 b, .int .i64 (1 + (len : Int)), .int .i64 m', .string p] 23); have h8a := heap_alloc_new w1 (.cells #[.int .i64 k, .int .i64 b, .int .i64 (1 + (len : Int)), .int .i64 m', .string p] 23); obtain ⟨y5a, -⟩ := row5 h5a; obtain ⟨y6a, x0a, x1a, x2a, x3a, x4a⟩ := row5 h6a; obtain ⟨y8a, -⟩ := row5 h8a))
        | (go_at_call 9; ((with_reducible refine (e1.out _).mono ?_); rintro e w2 ⟨rfl, hb2⟩; have h5b := row_on hb2 h5a y5a; have h6b := row_on hb2 h6a y6a; have h8b := row_on hb2 h8a y8a; obtain ⟨y5b, -⟩ := row5 h5b; obtain ⟨y6b, -⟩ := row5 h6b; obtain ⟨y8b, z0b, z1b, z2b, z3b, z4b⟩ := row5 h8b))
        | (go_at_call 9; ((with_reducible refine (e2.out _).mono ?_); rintro e w4 ⟨rfl, hb4⟩; have h5c := row_on hb4 h5b y5b; have h6c := row_on hb4 h6b y6b; have h8c := row_on hb4 h8b y8b; obtain ⟨y5c, r0c, r1c, r2c, r3c, r4c⟩ := row5 h5c; obtain ⟨y6c, x0c, x1c, x2c, x3c, x4c⟩ := row5 h6c; obtain ⟨y8c, z0c, z1c, z2c, z3c, z4c⟩ := row5 h8c))
        | ((with_reducible refine Plan.store_lit 23 (.tmp 6) _ (G + 1) ?_ h6c ?_ ?_ ?_ ?_ ?_ ?_); rotate_left; (· rfl); (· rfl); (· exact rec_info); (· rfl); (· simp [Value.oneCell']); simp only [Act.put]))
      go_roundw
      case rel =>
        have z1 := hb1.size
        have z2 := hb2.size
        have z4 := hb4.size
        have zb := hb.size
        simp only [World.size_alloc] at z2
        have hB : Below w.heap.size w w4 := ((((hb.trans (hb1.mono zb)).alloc (by omega) _).trans (hb2.mono (by simp; omega))).trans (hb4.mono (by omega)))
        refine ⟨i + 1, by go_num, by omega, by omega, ?_⟩
        have hmi : min (((i + 1 : Nat) : Int) - 1) 255 = m' := by rw [← hm']; congr 1; omega
        rw [hmi]
        exact ⟨(setRow_other _ _ _ _ (by omega)).trans h5c, setRow_heap _ _ _ _ _ _ h6c, below_setRow hB (by omega) _⟩
      case measure => simp [intOf]; omega
    · have hiI : ¬ (i : Int) ≤ (n : Int) % 300 := by omega
      go_wp2_with (go_at_call 8; ((with_reducible refine (recAwake _).mono ?_); rintro e w9 ⟨rfl, hb9⟩))
      go_ret
      exact ⟨rfl, hb.trans (hb9.mono hb.size)⟩
theorem u16_range {n : Int} (h : (Lit.int .u16 n).wf = true) : 0 ≤ n ∧ n < 65536 := by
  simp [Lit.wf, IntKind.min, IntKind.max, IntKind.bits, IntKind.signed] at h
  omega
theorem copies_all (a : Option Addr) (len cap : Nat) (z : List Int) (n : Int) (hn : 0 ≤ n ∧ n < 65536) (w : World) (hrow : IsRow .i64 w a len cap z) :
    Calls Try.prog 7 #[.slice a len cap, .int .u16 n] w fun e w' => e = .returned (.bool true) ∧ Below w.heap.size w w' := by
  by_cases h : len ≤ 300
  · have := copies_go a len cap z n.toNat w hrow h (by omega)
    rwa [Int.toNat_of_nonneg hn.1] at this
  · exact copies_light a len cap n w (by omega)
end Go.Proofs.Ythpfkmdnpfgjlaa
