/- Texts that belong together, part 34. -/
import Derived.Test.YtnmhnjjehglcfaaGreatPack33

/- The walk of the program's isPair. -/
namespace Go.Proofs.YtnmhnjjehglcfaaGreat.SrchM
theorem pair_iff {S : List Stp} {s : St} {w r : Nat} {a b : Stp} (ha : S[w]? = some a) (hb : S[r]? = some b) : isPair S s w r ↔ a.reads = false ∧ b.reads = true ∧ a.value = b.value ∧ s.D.testBit w = false ∧ s.D.testBit r = false := by
  constructor
  · rintro ⟨a', b', ha', hb', h⟩
    rw [ha] at ha'
    rw [hb] at hb'
    obtain rfl := Option.some.inj ha'
    obtain rfl := Option.some.inj hb'
    exact h
  · exact fun h => ⟨a, b, ha, hb, h⟩
end Go.Proofs.YtnmhnjjehglcfaaGreat.SrchM
namespace Go.Proofs.YtnmhnjjehglcfaaGreat.Ents
open Go.RowKit Plan HisMath LinMath Rws Env LayMath Bits SrchM
set_option maxHeartbeats 8000000 in
set_option maxRecDepth 20000 in
theorem isPair_any (S : List Stp) (g sn sc D wi ri : Nat) (sa : Option Addr) (v : ByteArray) (b m o : Value) (hn : sn ≤ 30) (hD : D < 2 ^ 30) (F : Nat → Prop) (w : World) (hg : w.heap[g]? = some (.cells #[.slice sa sn sc, b, m, o] 131 (0, 0))) (sl : PList w F sa sn sc S) (hw : wi < sn) (hr : ri < sn) :
    Calls Tryz.prog 111 #[.pointer (some ⟨g, 0, none⟩), .agg #[.int .u32 (D : Int), .string v], .int .i64 (wi : Int), .int .i64 (ri : Int)] w fun r w' => AnyPost (isPair S ⟨D, v, []⟩ wi ri) r ∧ Below w.heap.size w w' := by
  obtain ⟨hcp, hcm⟩ := sl.cap
  unfold maxLen at hcm
  obtain ⟨x, a, rfl, ha, -⟩ := stp_at sl wi hw
  obtain ⟨x', c, hx, hc, -⟩ := stp_at sl ri hr
  obtain rfl := Option.some.inj hx
  have HPI := Lib.hid (pair_iff (s := ⟨D, v, []⟩) ha hc)
  have HC : ∀ i e, i < sn → S[i]? = some e → ∀ W, Below w.heap.size w W → W.cell? (x.add (i * 5)) = some (.int .i64 e.serial) ∧ W.cell? ⟨(x.add (i * 5)).block, (x.add (i * 5)).off + 1, none⟩ = some (.bool e.reads) ∧ W.cell? ⟨(x.add (i * 5)).block, (x.add (i * 5)).off + 2, none⟩ = some (.string e.value) ∧ W.cell? ⟨(x.add (i * 5)).block, (x.add (i * 5)).off + 3, none⟩ = some (.int .i64 e.frm) ∧ W.cell? ⟨(x.add (i * 5)).block, (x.add (i * 5)).off + 4, none⟩ = some (.int .i64 e.tu) := fun i e hi he W h => by
    obtain ⟨x', r, hx, hr, q⟩ := stp_at (sl.same h) i hi
    obtain rfl := Option.some.inj hx
    rw [he] at hr
    obtain rfl := Option.some.inj hr
    exact q
  have HS := Lib.hid (fun W (h : Below w.heap.size w W) => (⟨cell_of_row _ _ 0 _ _ _ ((h.block g (e_lt hg)).trans hg), HC wi a hw ha W h, HC ri c hr hc W h⟩ : W.cell? ⟨g, 0, none⟩ = some (.slice (some x) sn sc) ∧ _ ∧ _))
  clear HC
  simp only [and_assoc] at HS
  have HW := Lib.hid (fun W => has_any D wi hD (by omega) W)
  have HR := Lib.hid (fun W => has_any D ri hD (by omega) W)
  have K := (Env.start w).al (.cells #[.int .u32 (D : Int), .string v] 136)
  have hwI : (wi : Int) < (sn : Int) := by omega
  have hrI : (ri : Int) < (sn : Int) := by omega
  simp only at HPI
  generalize D.testBit wi = z at *
  generalize D.testBit ri = y at *
  clear ha hc sl hg hx
  obtain ⟨ay, ar, av, af, au⟩ := a
  obtain ⟨bY, br, bv, bf, bu⟩ := c
  simp only at HS HPI
  go_enter Tryz.func111, Tryz.ntmps111
  go_upto_region 1 with fail
  generalize w.alloc (.cells #[.int .u32 (D : Int), .string v] 136) = w1 at *
  refine Tree.start (fun W => W.cell? ⟨g, 0, none⟩ = some (.slice (some x) sn sc) ∧ W.cell? (x.add (wi * 5)) = some (.int .i64 ay) ∧ W.cell? ⟨(x.add (wi * 5)).block, (x.add (wi * 5)).off + 1, none⟩ = some (.bool ar) ∧ W.cell? ⟨(x.add (wi * 5)).block, (x.add (wi * 5)).off + 2, none⟩ = some (.string av) ∧ W.cell? ⟨(x.add (wi * 5)).block, (x.add (wi * 5)).off + 3, none⟩ = some (.int .i64 af) ∧ W.cell? ⟨(x.add (wi * 5)).block, (x.add (wi * 5)).off + 4, none⟩ = some (.int .i64 au) ∧ W.cell? (x.add (ri * 5)) = some (.int .i64 bY) ∧ W.cell? ⟨(x.add (ri * 5)).block, (x.add (ri * 5)).off + 1, none⟩ = some (.bool br) ∧ W.cell? ⟨(x.add (ri * 5)).block, (x.add (ri * 5)).off + 2, none⟩ = some (.string bv) ∧ W.cell? ⟨(x.add (ri * 5)).block, (x.add (ri * 5)).off + 3, none⟩ = some (.int .i64 bf) ∧ W.cell? ⟨(x.add (ri * 5)).block, (x.add (ri * 5)).off + 4, none⟩ = some (.int .i64 bu)) (.take 0 (.take 1 (.take 2 (.take 3 (.take 4 (.take 5 (.take 6 (.take 7 (.take 8 (.take 9 (.take 10 (.take 11 (.take 12 (.take 13 (.fork 14 (.only 15 (.only 16 (.only 17 (.done)))) 15 (.only 14 (.only 16 (.only 17 (.done))))))))))))))))))) (by kernel_rfl) (by kernel_rfl) (by kernel_rfl) (by kernel_rfl) (HS.out _ K.drew.hb) ?_
  simp only [Tree.T.map, List.getElem?_toArray, List.getElem?_cons_zero, List.getElem?_cons_succ]
  replace K := K.drew
  obtain ⟨w2, hw2⟩ : ∃ W, W = w1.drew := ⟨_, rfl⟩
  rw [← hw2] at K ⊢
  clear hw2
  repeat (refine Tree.take ?_ (by rfl) ?_ ?_; rotate_left; (· rintro w9 ⟨u0, a0, a1, a2, a3, a4, b0, b1, b2, b3, b4⟩; go_simp; all_goals (with_reducible rfl)); simp only [Act.put, List.setIfInBounds_toArray, List.set_cons_zero, List.set_cons_succ])
  refine Tree.fork (by rfl) (by rfl) ?_ ?_
  · skip
    have K2 := K.al (.cells #[.int .i64 0, .bool false, .string ⟨#[]⟩, .int .i64 0, .int .i64 0] 94)
    refine Tree.wp_make (.pointer (some ⟨w2.heap.size, 0, none⟩)) _ ?_ ⟨HS.out _ K2.hb, ?_⟩
    · go_simp
    simp only [Act.put, List.setIfInBounds_toArray, List.set_cons_zero, List.set_cons_succ]
    have K3 := K2.al (.cells #[.int .i64 0, .bool false, .string ⟨#[]⟩, .int .i64 0, .int .i64 0] 94)
    refine Tree.only (by rfl) (Tree.wp_make (.pointer (some ⟨(w2.alloc (.cells #[.int .i64 0, .bool false, .string ⟨#[]⟩, .int .i64 0, .int .i64 0] 94)).heap.size, 0, none⟩)) _ ?_ ⟨HS.out _ K3.hb, ?_⟩)
    · go_simp
    simp only [Act.put, List.setIfInBounds_toArray, List.set_cons_zero, List.set_cons_succ]
    generalize (w2.alloc (.cells #[.int .i64 0, .bool false, .string ⟨#[]⟩, .int .i64 0, .int .i64 0] 94)).heap.size = G2 at *
    generalize w2.heap.size = G1 at *
    generalize (w2.alloc (.cells #[.int .i64 0, .bool false, .string ⟨#[]⟩, .int .i64 0, .int .i64 0] 94)).alloc (.cells #[.int .i64 0, .bool false, .string ⟨#[]⟩, .int .i64 0, .int .i64 0] 94) = w4 at *
    clear K2 K
    refine Tree.only (by rfl) (K3.storeRow 1 rfl 94 (.tmp 9) (.tmp 17) rfl #[.int .i64 ay, .bool ar, .string av, .int .i64 af, .int .i64 au] rfl rfl stp_info rfl (by simp [Value.oneCell']) ?_)
    intro w5 K4 _
    simp only [List.set] at K4
    refine ⟨HS.out _ K4.hb, ?_⟩
    simp only [Act.put]
    refine Tree.only (by rfl) (K4.storeRow 0 rfl 94 (.tmp 10) (.tmp 24) rfl #[.int .i64 bY, .bool br, .string bv, .int .i64 bf, .int .i64 bu] rfl rfl stp_info rfl (by simp [Value.oneCell']) ?_)
    intro w6 K5 _
    simp only [List.set] at K5
    refine ⟨HS.out _ K5.hb, ?_⟩
    simp only [Act.put]
    refine Tree.ends ?_
    clear K3 K4 HS
    obtain ⟨a0, a1, a2, a3, a4⟩ := stp_cells (K5.get 1 rfl)
    obtain ⟨b0, b1, b2, b3, b4⟩ := stp_cells (K5.get 0 rfl)
    have d0 := cell_of_row _ _ 0 _ _ _ (K5.get 2 rfl)
    clear a0 a3 a4 b0 b3 b4
    cases ar with
    | true =>
      have HPX : RowKit.Hid (¬ isPair S ⟨D, v, []⟩ wi ri) := Lib.hid (fun h => (by have := (HPI.out.1 h).1; cases this))
      go_wp2_with fail
      go_ret
      exact ⟨any_no HPX.out, K5.hb⟩
    | false =>
      cases br with
      | false =>
        have HPX : RowKit.Hid (¬ isPair S ⟨D, v, []⟩ wi ri) := Lib.hid (fun h => (by have := (HPI.out.1 h).2.1; cases this))
        go_wp2_with fail
        go_ret
        exact ⟨any_no HPX.out, K5.hb⟩
      | true =>
        by_cases hv : av = bv
        · have e1 : (av == bv) = true := by rw [hv]; exact (MapKept.bytes_beq _ _).2 rfl
          have e2 : (av.toList == bv.toList) = true := by rw [hv]; exact beq_self_eq_true _
          have HV := Lib.hid hv
          clear hv
          cases z with
          | true =>
            have HPX : RowKit.Hid (¬ isPair S ⟨D, v, []⟩ wi ri) := Lib.hid (fun h => (by have := (HPI.out.1 h).2.2.2.1; cases this))
            go_wp2_with (first
              | (go_at_call 134; ((with_reducible refine (HW.out _).mono ?_); rintro r9 w7 ⟨rfl, h9⟩; have K6 := K5.on h9; clear h9; obtain ⟨-, a1, a2, -, -⟩ := stp_cells (K6.get 1 rfl); obtain ⟨-, b1, b2, -, -⟩ := stp_cells (K6.get 0 rfl); have d1 := cell_of_row _ _ 0 _ _ _ (K6.get 2 rfl); clear HW)))
            go_ret
            exact ⟨any_no HPX.out, K6.hb⟩
          | false =>
            cases y with
            | true =>
              have HPX : RowKit.Hid (¬ isPair S ⟨D, v, []⟩ wi ri) := Lib.hid (fun h => (by have := (HPI.out.1 h).2.2.2.2; cases this))
              go_wp2_with (first
                | (go_at_call 134; ((with_reducible refine (HW.out _).mono ?_); rintro r9 w7 ⟨rfl, h9⟩; have K6 := K5.on h9; clear h9; obtain ⟨-, a1, a2, -, -⟩ := stp_cells (K6.get 1 rfl); obtain ⟨-, b1, b2, -, -⟩ := stp_cells (K6.get 0 rfl); have d1 := cell_of_row _ _ 0 _ _ _ (K6.get 2 rfl); clear HW))
                | (go_at_call 134; ((with_reducible refine (HR.out _).mono ?_); rintro r9 w8 ⟨rfl, h9⟩; have K7 := K6.on h9; clear h9 HR)))
              go_ret
              exact ⟨any_no HPX.out, K7.hb⟩
            | false =>
              have HPX := Lib.hid (HPI.out.2 ⟨rfl, rfl, HV.out, rfl, rfl⟩)
              go_wp2_with (first
                | (go_at_call 134; ((with_reducible refine (HW.out _).mono ?_); rintro r9 w7 ⟨rfl, h9⟩; have K6 := K5.on h9; clear h9; obtain ⟨-, a1, a2, -, -⟩ := stp_cells (K6.get 1 rfl); obtain ⟨-, b1, b2, -, -⟩ := stp_cells (K6.get 0 rfl); have d1 := cell_of_row _ _ 0 _ _ _ (K6.get 2 rfl); clear HW))
                | (go_at_call 134; ((with_reducible refine (HR.out _).mono ?_); rintro r9 w8 ⟨rfl, h9⟩; have K7 := K6.on h9; clear h9 HR)))
              go_ret
              exact ⟨any_yes HPX.out, K7.hb⟩
        · have e1 := ba_ne hv
          have e2 := bal_ne hv
          have HPX : RowKit.Hid (¬ isPair S ⟨D, v, []⟩ wi ri) := Lib.hid (fun h => hv (HPI.out.1 h).2.2.1)
          clear hv
          go_wp2_with fail
          go_ret
          exact ⟨any_no HPX.out, K5.hb⟩
  · skip
    have K2 := K.al (.cells #[.int .i64 0, .bool false, .string ⟨#[]⟩, .int .i64 0, .int .i64 0] 94)
    refine Tree.wp_make (.pointer (some ⟨w2.heap.size, 0, none⟩)) _ ?_ ⟨HS.out _ K2.hb, ?_⟩
    · go_simp
    simp only [Act.put, List.setIfInBounds_toArray, List.set_cons_zero, List.set_cons_succ]
    have K3 := K2.al (.cells #[.int .i64 0, .bool false, .string ⟨#[]⟩, .int .i64 0, .int .i64 0] 94)
    refine Tree.only (by rfl) (Tree.wp_make (.pointer (some ⟨(w2.alloc (.cells #[.int .i64 0, .bool false, .string ⟨#[]⟩, .int .i64 0, .int .i64 0] 94)).heap.size, 0, none⟩)) _ ?_ ⟨HS.out _ K3.hb, ?_⟩)
    · go_simp
    simp only [Act.put, List.setIfInBounds_toArray, List.set_cons_zero, List.set_cons_succ]
    generalize (w2.alloc (.cells #[.int .i64 0, .bool false, .string ⟨#[]⟩, .int .i64 0, .int .i64 0] 94)).heap.size = G2 at *
    generalize w2.heap.size = G1 at *
    generalize (w2.alloc (.cells #[.int .i64 0, .bool false, .string ⟨#[]⟩, .int .i64 0, .int .i64 0] 94)).alloc (.cells #[.int .i64 0, .bool false, .string ⟨#[]⟩, .int .i64 0, .int .i64 0] 94) = w4 at *
    clear K2 K
    refine Tree.only (by rfl) (K3.storeRow 0 rfl 94 (.tmp 9) (.tmp 17) rfl #[.int .i64 ay, .bool ar, .string av, .int .i64 af, .int .i64 au] rfl rfl stp_info rfl (by simp [Value.oneCell']) ?_)
    intro w5 K4 _
    simp only [List.set] at K4
    refine ⟨HS.out _ K4.hb, ?_⟩
    simp only [Act.put]
    refine Tree.only (by rfl) (K4.storeRow 1 rfl 94 (.tmp 10) (.tmp 24) rfl #[.int .i64 bY, .bool br, .string bv, .int .i64 bf, .int .i64 bu] rfl rfl stp_info rfl (by simp [Value.oneCell']) ?_)
    intro w6 K5 _
    simp only [List.set] at K5
    refine ⟨HS.out _ K5.hb, ?_⟩
    simp only [Act.put]
    refine Tree.ends ?_
    clear K3 K4 HS
    obtain ⟨a0, a1, a2, a3, a4⟩ := stp_cells (K5.get 0 rfl)
    obtain ⟨b0, b1, b2, b3, b4⟩ := stp_cells (K5.get 1 rfl)
    have d0 := cell_of_row _ _ 0 _ _ _ (K5.get 2 rfl)
    clear a0 a3 a4 b0 b3 b4
    cases ar with
    | true =>
      have HPX : RowKit.Hid (¬ isPair S ⟨D, v, []⟩ wi ri) := Lib.hid (fun h => (by have := (HPI.out.1 h).1; cases this))
      go_wp2_with fail
      go_ret
      exact ⟨any_no HPX.out, K5.hb⟩
    | false =>
      cases br with
      | false =>
        have HPX : RowKit.Hid (¬ isPair S ⟨D, v, []⟩ wi ri) := Lib.hid (fun h => (by have := (HPI.out.1 h).2.1; cases this))
        go_wp2_with fail
        go_ret
        exact ⟨any_no HPX.out, K5.hb⟩
      | true =>
        by_cases hv : av = bv
        · have e1 : (av == bv) = true := by rw [hv]; exact (MapKept.bytes_beq _ _).2 rfl
          have e2 : (av.toList == bv.toList) = true := by rw [hv]; exact beq_self_eq_true _
          have HV := Lib.hid hv
          clear hv
          cases z with
          | true =>
            have HPX : RowKit.Hid (¬ isPair S ⟨D, v, []⟩ wi ri) := Lib.hid (fun h => (by have := (HPI.out.1 h).2.2.2.1; cases this))
            go_wp2_with (first
              | (go_at_call 134; ((with_reducible refine (HW.out _).mono ?_); rintro r9 w7 ⟨rfl, h9⟩; have K6 := K5.on h9; clear h9; obtain ⟨-, a1, a2, -, -⟩ := stp_cells (K6.get 0 rfl); obtain ⟨-, b1, b2, -, -⟩ := stp_cells (K6.get 1 rfl); have d1 := cell_of_row _ _ 0 _ _ _ (K6.get 2 rfl); clear HW)))
            go_ret
            exact ⟨any_no HPX.out, K6.hb⟩
          | false =>
            cases y with
            | true =>
              have HPX : RowKit.Hid (¬ isPair S ⟨D, v, []⟩ wi ri) := Lib.hid (fun h => (by have := (HPI.out.1 h).2.2.2.2; cases this))
              go_wp2_with (first
                | (go_at_call 134; ((with_reducible refine (HW.out _).mono ?_); rintro r9 w7 ⟨rfl, h9⟩; have K6 := K5.on h9; clear h9; obtain ⟨-, a1, a2, -, -⟩ := stp_cells (K6.get 0 rfl); obtain ⟨-, b1, b2, -, -⟩ := stp_cells (K6.get 1 rfl); have d1 := cell_of_row _ _ 0 _ _ _ (K6.get 2 rfl); clear HW))
                | (go_at_call 134; ((with_reducible refine (HR.out _).mono ?_); rintro r9 w8 ⟨rfl, h9⟩; have K7 := K6.on h9; clear h9 HR)))
              go_ret
              exact ⟨any_no HPX.out, K7.hb⟩
            | false =>
              have HPX := Lib.hid (HPI.out.2 ⟨rfl, rfl, HV.out, rfl, rfl⟩)
              go_wp2_with (first
                | (go_at_call 134; ((with_reducible refine (HW.out _).mono ?_); rintro r9 w7 ⟨rfl, h9⟩; have K6 := K5.on h9; clear h9; obtain ⟨-, a1, a2, -, -⟩ := stp_cells (K6.get 0 rfl); obtain ⟨-, b1, b2, -, -⟩ := stp_cells (K6.get 1 rfl); have d1 := cell_of_row _ _ 0 _ _ _ (K6.get 2 rfl); clear HW))
                | (go_at_call 134; ((with_reducible refine (HR.out _).mono ?_); rintro r9 w8 ⟨rfl, h9⟩; have K7 := K6.on h9; clear h9 HR)))
              go_ret
              exact ⟨any_yes HPX.out, K7.hb⟩
        · have e1 := ba_ne hv
          have e2 := bal_ne hv
          have HPX : RowKit.Hid (¬ isPair S ⟨D, v, []⟩ wi ri) := Lib.hid (fun h => hv (HPI.out.1 h).2.2.1)
          clear hv
          go_wp2_with fail
          go_ret
          exact ⟨any_no HPX.out, K5.hb⟩
end Go.Proofs.YtnmhnjjehglcfaaGreat.Ents

/- What the program's finish and tryPair leave: an end was found, or there is none, and what was seen has none. Plain mathematics. -/
namespace Go.Proofs.YtnmhnjjehglcfaaGreat.SrchM
open LinMath Ents
/-- what was seen with more steps done has no end -/
def KnownG (S : List Stp) (D : Nat) (Sn : List (Int × ByteArray)) : Prop := ∀ (D' : Nat) (v' : ByteArray), ((D' : Int), v') ∈ Sn → D < D' → ¬ Compl S D' v'
def KnownE (S : List Stp) (D : Nat) (Sn : List (Int × ByteArray)) : Prop := ∀ (D' : Nat) (v' : ByteArray), ((D' : Int), v') ∈ Sn → D ≤ D' → ¬ Compl S D' v'
def pairC (S : List Stp) (s : St) (w r : Nat) : Prop := (pair3 S s w r).D.testBit r = true ∧ Compl S (pair3 S s w r).D (pair3 S s w r).v
structure FinM (S : List Stp) (s : St) (Sn : List (Int × ByteArray)) (b : Bool) (OL : List Int) (Sn' : List (Int × ByteArray)) : Prop where
  yes : b = true → ∃ t, Goes S s t ∧ goal S t.D ∧ OL = serO S t.o
  no : b = false → ¬ Compl S s.D s.v
  ord : b = false → ∃ m, OL = serO S s.o ++ m
  seen : b = false → ∀ p ∈ Sn', p ∈ Sn ∨ ∃ D' : Nat, p.1 = (D' : Int) ∧ s.D ≤ D' ∧ ¬ Compl S D' p.2
structure TryM (S : List Stp) (s : St) (w r : Nat) (Sn : List (Int × ByteArray)) (b : Bool) (OL : List Int) (Sn' : List (Int × ByteArray)) : Prop where
  yes : b = true → ∃ t, Goes S s t ∧ goal S t.D ∧ OL = serO S t.o
  no : b = false → ¬ pairC S s w r
  ord : b = false → ∃ m, OL = serO S s.o ++ m
  seen : b = false → ∀ p ∈ Sn', p ∈ Sn ∨ ∃ D' : Nat, p.1 = (D' : Int) ∧ s.D < D' ∧ ¬ Compl S D' p.2
section
variable {S : List Stp} {s t : St} {w r : Nat} {Sn Sn' Sn2 : List (Int × ByteArray)} {b : Bool} {OL : List Int}
theorem ser_app (o l : List Nat) : serO S (o ++ l) = serO S o ++ serO S l := by simp [serO]
theorem Goes.ser (h : Goes S s t) : ∃ m, serO S t.o = serO S s.o ++ m := by
  obtain ⟨l, _, e⟩ := h
  exact ⟨serO S l, by rw [e, ser_app]⟩
/-- more bits make a greater number -/
theorem bits_le {D E : Nat} (h : ∀ k, D.testBit k = true → E.testBit k = true) : D ≤ E := by
  have : D ||| E = E := Nat.eq_of_testBit_eq fun i => by
    rw [Nat.testBit_or]
    cases hq : D.testBit i with
    | false => rfl
    | true => rw [h i hq]; rfl
  rw [← this]
  exact Nat.left_le_or
theorem Goes.le (h : Goes S s t) : s.D ≤ t.D := bits_le fun _ hk => h.mono hk
theorem Goes.lt (h : Goes S s t) {k : Nat} (h1 : s.D.testBit k = false) (h2 : t.D.testBit k = true) : s.D < t.D := by
  rcases Nat.lt_or_eq_of_le h.le with h3 | h3
  · exact h3
  · rw [h3, h2] at h1; cases h1
theorem pair_lt (hp : isPair S s w r) (hr : (pair3 S s w r).D.testBit r = true) : s.D < (pair3 S s w r).D := by
  have hq := hp
  obtain ⟨a, b, _, _, _, _, _, _, h⟩ := hq
  exact (pair_goes hp).lt h hr
theorem try_no (hp : isPair S s w r) (h : (pair3 S s w r).D.testBit r = false) : TryM S s w r Sn false (serO S (pair3 S s w r).o) Sn :=
  ⟨fun h => (by cases h), fun _ hc => (by rw [hc.1] at h; cases h), fun _ => (pair_goes hp).ser, fun _ p hp => .inl hp⟩
theorem try_fin (hp : isPair S s w r) (h : (pair3 S s w r).D.testBit r = true) (hf : FinM S (pair3 S s w r) Sn b OL Sn') : TryM S s w r Sn b OL Sn' := by
  refine ⟨fun hb => ?_, fun hb hc => hf.no hb hc.2, fun hb => ?_, fun hb p hp' => ?_⟩
  · obtain ⟨t, h1, h2, h3⟩ := hf.yes hb
    exact ⟨t, (pair_goes hp).trans h1, h2, h3⟩
  · obtain ⟨m, hm⟩ := (pair_goes hp).ser
    obtain ⟨m2, hm2⟩ := hf.ord hb
    exact ⟨m ++ m2, by rw [hm2, hm, List.append_assoc]⟩
  · rcases hf.seen hb p hp' with h1 | ⟨D', h1, h2, h3⟩
    · exact .inl h1
    · exact .inr ⟨D', h1, Nat.lt_of_lt_of_le (pair_lt hp h) h2, h3⟩
theorem KnownG.pair (hk : KnownG S s.D Sn) (hp : isPair S s w r) (h : (pair3 S s w r).D.testBit r = true) : KnownE S (pair3 S s w r).D Sn := fun D' v' hm hle => hk D' v' hm (Nat.lt_of_lt_of_le (pair_lt hp h) hle)
/-- reading first loses nothing -/
theorem compl_read (h : Compl S s.D s.v) (n : Nat) : Compl S (loopS S readP s n).D (loopS S readP s n).v := by
  have h1 := read_only (S := S) s n
  rw [h1.1]
  exact h.more (fun k hk => (read_goes s n).1.mono hk) h1.2
theorem fin_rest (hS : SOk S) (hr : ¬ ∃ i, isR S i ∧ (loopS S readP s S.length).D.testBit i = false) : FinM S s Sn true (serO S (loopS S restP (loopS S readP s S.length) S.length).o) Sn := by
  have hr' : ∀ i, isR S i → (loopS S readP s S.length).D.testBit i = true := fun i hi => by
    cases hq : (loopS S readP s S.length).D.testBit i with
    | true => rfl
    | false => exact absurd ⟨i, hi, hq⟩ hr
  exact ⟨fun _ => ⟨_, (read_goes s S.length).1.trans (rest_goes _ S.length hr').1, rest_goal hS _ hr', rfl⟩, fun h => (by cases h), fun h => (by cases h), fun h => (by cases h)⟩
theorem fin_seen {n : Nat} (hk : KnownE S s.D Sn) (hm : (((loopS S readP s n).D : Int), (loopS S readP s n).v) ∈ Sn) : FinM S s Sn false (serO S (loopS S readP s n).o) Sn :=
  ⟨fun h => (by cases h), fun _ hc => hk _ _ hm (read_goes s n).1.le (compl_read hc n), fun _ => (read_goes s n).1.ser, fun _ p hp => .inl hp⟩
/-- where the search of a state stands: which pairs have been tried -/
structure FSt (S : List Stp) (s1 : St) (Sn : List (Int × ByteArray)) (i j : Nat) (Sn2 : List (Int × ByteArray)) : Prop where
  seen : ∀ p ∈ Sn2, p ∈ Sn ∨ p = ((s1.D : Int), s1.v) ∨ ∃ D' : Nat, p.1 = (D' : Int) ∧ s1.D < D' ∧ ¬ Compl S D' p.2
  no : ∀ w r, (w < i ∨ w = i ∧ r < j) → isPair S s1 w r → ¬ pairC S s1 w r
theorem FSt.start : FSt S s Sn 0 0 (((s.D : Int), s.v) :: Sn) := ⟨fun p hp => by
  rcases List.mem_cons.1 hp with h | h
  · exact .inr (.inl h)
  · exact .inl h, fun w r h => by omega⟩
variable {i j : Nat}
theorem FSt.skip (h : FSt S s Sn i j Sn2) (hn : ¬ isPair S s i j) : FSt S s Sn i (j + 1) Sn2 := ⟨h.seen, fun w r hw hp => by
  by_cases hq : w = i ∧ r = j
  · obtain ⟨rfl, rfl⟩ := hq; exact absurd hp hn
  · exact h.no w r (by omega) hp⟩
theorem FSt.tried {OL : List Int} {Sn3 : List (Int × ByteArray)} (h : FSt S s Sn i j Sn2) (ht : TryM S s i j Sn2 false OL Sn3) : FSt S s Sn i (j + 1) Sn3 := by
  refine ⟨fun p hp => ?_, fun w r hw hp => ?_⟩
  · rcases ht.seen rfl p hp with h1 | h1
    · exact h.seen p h1
    · exact .inr (.inr h1)
  · by_cases hq : w = i ∧ r = j
    · obtain ⟨rfl, rfl⟩ := hq; exact ht.no rfl
    · exact h.no w r (by omega) hp
theorem FSt.row (h : FSt S s Sn i j Sn2) (hj : S.length ≤ j) : FSt S s Sn (i + 1) 0 Sn2 := ⟨h.seen, fun w r hw hp => by
  refine h.no w r ?_ hp
  obtain ⟨a, b, ha, hb, _⟩ := hp
  have := (List.getElem?_eq_some_iff.1 hb).1
  omega⟩
theorem FSt.known (h : FSt S s Sn i j Sn2) (hk : KnownG S s.D Sn) : KnownG S s.D Sn2 := fun D' v' hm hlt => by
  rcases h.seen _ hm with h1 | h1 | ⟨D2, h1, _, h3⟩
  · exact hk D' v' h1 hlt
  · have : (D' : Int) = (s.D : Int) := congrArg Prod.fst h1
    omega
  · have h1' : (D' : Int) = (D2 : Int) := h1
    obtain rfl : D' = D2 := by omega
    exact h3
theorem KnownE.read {n : Nat} (hk : KnownE S s.D Sn) : KnownG S (loopS S readP s n).D Sn := fun D' v' hm hlt => hk D' v' hm (Nat.le_of_lt (Nat.lt_of_le_of_lt (read_goes s n).1.le hlt))
theorem FSt.done (hS : SOk S) (h : FSt S (loopS S readP s S.length) Sn i j Sn2) (hi : S.length ≤ i) (hr : ∃ i, isR S i ∧ (loopS S readP s S.length).D.testBit i = false) : FinM S s Sn false (serO S (loopS S readP s S.length).o) Sn2 := by
  have hno : ¬ Compl S (loopS S readP s S.length).D (loopS S readP s S.length).v := fun hc => by
    obtain ⟨w, r, h1, h2⟩ := pair_exists hS (fun k a ha har hv hp => read_max hS s ha har (hv.trans (read_only s S.length).1) hp) hr hc
    refine h.no w r (.inl ?_) h1 h2
    obtain ⟨a, b, ha, _⟩ := h1
    have := (List.getElem?_eq_some_iff.1 ha).1
    omega
  refine ⟨fun h => (by cases h), fun _ hc => hno (compl_read hc S.length), fun _ => (read_goes s S.length).1.ser, fun _ p hp => ?_⟩
  rcases h.seen p hp with h1 | h1 | ⟨D', h1, h2, h3⟩
  · exact .inl h1
  · exact .inr ⟨_, by rw [h1], (read_goes s S.length).1.le, by rw [h1]; exact hno⟩
  · exact .inr ⟨D', h1, Nat.le_trans (read_goes s S.length).1.le (Nat.le_of_lt h2), h3⟩
theorem FSt.found {OL : List Int} {Sn3 : List (Int × ByteArray)} {n : Nat} (ht : TryM S (loopS S readP s n) i j Sn2 true OL Sn3) : FinM S s Sn true OL Sn3 := by
  obtain ⟨t, h1, h2, h3⟩ := ht.yes rfl
  exact ⟨fun _ => ⟨t, (read_goes s n).1.trans h1, h2, h3⟩, fun h => (by cases h), fun h => (by cases h), fun h => (by cases h)⟩
/-- every value on the way is the first one or one of a step -/
theorem Goes.value {v0 : ByteArray} (h : Goes S ⟨0, v0, []⟩ t) : t.v = v0 ∨ ∃ a ∈ S, a.value = t.v := by
  obtain ⟨l, h, _⟩ := h
  have key : ∀ {D D' : Nat} {v w : ByteArray} {l : List Nat}, Run S D v l D' w → w = v ∨ ∃ a ∈ S, a.value = w := fun h => by
    induction h with
    | nil => exact .inl rfl
    | @cons D v i a l D' v' ha hd hp hr _ ih =>
      rcases ih with h1 | h1
      · exact .inr ⟨a, List.mem_of_getElem? ha, h1.symm⟩
      · exact .inr h1
  exact key h
end
end Go.Proofs.YtnmhnjjehglcfaaGreat.SrchM

/- The walk of the program's tryPair. -/
namespace Go.Proofs.YtnmhnjjehglcfaaGreat.Ents
open Go.RowKit Plan HisMath LinMath Rws Env LayMath Bits SrchM
def FPost (M : Bool → List Int → List (Int × ByteArray) → Prop) (g : Nat) (sa : Option Addr) (sn sc : Nat) (ba : Option Addr) (bc mb : Nat) (S : List Stp) (s : St) (Sn : List (Int × ByteArray)) (w0 w : World) (F : Nat → Prop) (T : List Thing) (ov : Value) (r : Ending) (w' : World) : Prop :=
  ∃ (ov' : Value) (n' : Nat) (OL' : List Int) (Sn' : List (Int × ByteArray)) (b : Bool), r = .returned (.bool b) ∧ Env w0 w' (sT g sa sn sc ba bc mb ov' :: Env.lst IR ov' n' OL' :: lseenT mb Sn' :: T) ∧
    Keep w0 F w (oTs S g sa sn sc ba bc mb s ov (lseenT mb Sn :: T)) w' (sT g sa sn sc ba bc mb ov' :: Env.lst IR ov' n' OL' :: lseenT mb Sn' :: T) ∧ M b OL' Sn'
theorem fpost {M : Bool → List Int → List (Int × ByteArray) → Prop} {g sn sc bc mb : Nat} {sa ba : Option Addr} {S : List Stp} {s : St} {Sn : List (Int × ByteArray)} {w0 w : World} {F : Nat → Prop} {T : List Thing} {ov : Value} {w' : World} {ov' : Value} {n' : Nat} {OL' : List Int} {Sn' : List (Int × ByteArray)} {b : Bool}
    (K : Env w0 w' (sT g sa sn sc ba bc mb ov' :: Env.lst IR ov' n' OL' :: lseenT mb Sn' :: T)) (k : Keep w0 F w (oTs S g sa sn sc ba bc mb s ov (lseenT mb Sn :: T)) w' (sT g sa sn sc ba bc mb ov' :: Env.lst IR ov' n' OL' :: lseenT mb Sn' :: T)) (h : M b OL' Sn') : FPost M g sa sn sc ba bc mb S s Sn w0 w F T ov (.returned (.bool b)) w' :=
  ⟨ov', n', OL', Sn', b, rfl, K, k, h⟩
/-- finish does what it is to do, for states with few steps left -/
def FinC (S : List Stp) (g : Nat) (sa : Option Addr) (sn sc : Nat) (ba : Option Addr) (bc mb : Nat) (v0 : ByteArray) (m : Nat) : Prop :=
  ∀ (s : St), 2 ^ sn - s.D ≤ m → Goes S ⟨0, v0, []⟩ s → ∀ (w0 w : World) (F : Nat → Prop) (T : List Thing) (ov : Value) (Sn : List (Int × ByteArray)), Env w0 w (oTs S g sa sn sc ba bc mb s ov (lseenT mb Sn :: T)) →
    PList w (Quiet w0 F w (oTs S g sa sn sc ba bc mb s ov (lseenT mb Sn :: T))) sa sn sc S → TList UR w (Quiet w0 F w (oTs S g sa sn sc ba bc mb s ov (lseenT mb Sn :: T))) ba sn bc (befL S) → KnownE S s.D Sn →
    Calls Tryz.prog 89 #[.pointer (some ⟨g, 0, none⟩), .agg #[.int .u32 (s.D : Int), .string s.v]] w (FPost (FinM S s Sn) g sa sn sc ba bc mb S s Sn w0 w F T ov)
set_option maxHeartbeats 8000000 in
set_option maxRecDepth 20000 in
theorem tryPair_any (S : List Stp) (g mb sn sc bc wi ri m : Nat) (sa ba : Option Addr) (hn : sn ≤ 30) (v0 : ByteArray) (IH : FinC S g sa sn sc ba bc mb v0 m) (s : St) (h0 : Goes S ⟨0, v0, []⟩ s) (hw : wi < sn) (hr : ri < sn) (hp : isPair S s wi ri) (w0 w : World) (F : Nat → Prop) (T : List Thing) (ov : Value) (Sn : List (Int × ByteArray)) (hk : KnownG S s.D Sn)
    (hm : (pair3 S s wi ri).D.testBit ri = true → 2 ^ sn - (pair3 S s wi ri).D ≤ m)
    (K0 : Env w0 w (oTs S g sa sn sc ba bc mb s ov (lseenT mb Sn :: T))) (sl : PList w (Quiet w0 F w (oTs S g sa sn sc ba bc mb s ov (lseenT mb Sn :: T))) sa sn sc S) (bl : TList UR w (Quiet w0 F w (oTs S g sa sn sc ba bc mb s ov (lseenT mb Sn :: T))) ba sn bc (befL S)) :
    Calls Tryz.prog 112 #[.pointer (some ⟨g, 0, none⟩), .agg #[.int .u32 (s.D : Int), .string s.v], .int .i64 (wi : Int), .int .i64 (ri : Int)] w (FPost (TryM S s wi ri Sn) g sa sn sc ba bc mb S s Sn w0 w F T ov) := by
  have hlen := sl.length
  obtain ⟨hcp, hcm⟩ := sl.cap
  obtain ⟨hcp2, hcm2⟩ := bl.cap
  unfold maxLen at hcm hcm2
  obtain ⟨x0, -, rfl, -⟩ := stp_at sl wi hw
  obtain ⟨y, -, rfl, -⟩ := ur_at bl wi hw
  have HB := Lib.hid (fun W T' (k : Keep w0 F w (oTs S g (some x0) sn sc (some y) bc mb s ov (lseenT mb Sn :: T)) W T') i (hi : i < sn) => (show W.cell? (y.add i) = some (.int .u32 ((befN S i S.length : Nat) : Int)) from by
    obtain ⟨y', b, hy, hb, q⟩ := ur_at (bl.keep k) i hi
    obtain rfl := Option.some.inj hy
    rw [bef_get (by omega)] at hb
    obtain rfl := Option.some.inj hb
    exact q))
  have hDs : s.D < 2 ^ 30 := by
    have := (goes_lim h0).1
    rw [hlen] at this
    exact pow_lt30 hn this
  have hB1 := pow_lt30 (by omega) (bef_lt S wi S.length)
  have hB2 := pow_lt30 (by omega) (bef_lt S ri S.length)
  have hor := bits_or32 hB1 hB2
  have hor2 : befN S wi S.length ||| befN S ri S.length < 2 ^ 30 := Nat.or_lt_two_pow hB1 hB2
  have hand := bits_andNot32 hor2 hDs
  have hNB : andN (befN S wi S.length ||| befN S ri S.length) s.D < 2 ^ 30 := Nat.lt_of_le_of_lt (andN_le (by omega)) hor2
  have HNP := Lib.hid (fun t n a => (show needP S s.D wi ri t n a = ((andN (befN S wi S.length ||| befN S ri S.length) s.D).testBit n && decide (n ≠ wi) && !a.reads) from by
    unfold needP
    rw [andN_bit (by omega) (by omega), Nat.testBit_or]))
  have HBW := Lib.hid (fun W T' k => HB.out W T' k wi hw)
  have HBR := Lib.hid (fun W T' k => HB.out W T' k ri hr)
  clear HB
  have HL := Lib.hid (fun j => (show (loopS S (needP S s.D wi ri) s j).D < 2 ^ 30 ∧ (loopS S (needP S s.D wi ri) s j).o.length ≤ 1000 from by
    obtain ⟨h1, h2⟩ := goes_lim (h0.trans (need_goes s wi ri j).1)
    rw [hlen] at h1 h2
    exact ⟨pow_lt30 hn h1, by omega⟩))
  have HE1 := Lib.hid (show need1 S s wi ri = loopS S (needP S s.D wi ri) s sn from by unfold need1; rw [hlen])
  have HE3 := Lib.hid (show pair3 S s wi ri = loopS S readP (pair2 S s wi ri) sn from by unfold pair3; rw [hlen])
  have HG3 := Lib.hid (h0.trans (pair_goes hp))
  have HG2 := Lib.hid (show Goes S ⟨0, v0, []⟩ (pair2 S s wi ri) from by
    obtain ⟨a, b, ha, hb, har, hbr, hv, hw, hr⟩ := hp
    exact h0.trans ((need_goes s wi ri S.length).1.trans (do_goes ha (need_w hw _) (fun h => by rw [har] at h; cases h))))
  have HD3 := Lib.hid (show (pair3 S s wi ri).D < 2 ^ 30 from by
    have := (goes_lim HG3.out).1
    rw [hlen] at this
    exact pow_lt30 hn this)
  generalize befN S wi S.length = B1 at *
  generalize befN S ri S.length = B2 at *
  have hwI : (wi : Int) < (sn : Int) := by omega
  have hrI : (ri : Int) < (sn : Int) := by omega
  have K := K0.al (.cells #[.int .u32 (s.D : Int), .string s.v] 136)
  have k := K0.keep_al (F := F) (.cells #[.int .u32 (s.D : Int), .string s.v] 136)
  obtain ⟨X, hX⟩ : ∃ X, w.heap.size = X := ⟨_, rfl⟩
  rw [hX] at K k
  clear K0 h0
  go_enter Tryz.func112, Tryz.ntmps112
  go_upto_region 1 with fail
  (try simp only [hX])
  clear hX
  generalize w.alloc (.cells #[.int .u32 (s.D : Int), .string s.v] 136) = w1 at *
  refine Plan.start (fun W => W.cell? ⟨g, 1, none⟩ = some (.slice (some y) sn bc) ∧ W.cell? (y.add wi) = some (.int .u32 (B1 : Int)) ∧ W.cell? (y.add ri) = some (.int .u32 (B2 : Int)) ∧ W.cell? ⟨X, 0, none⟩ = some (.int .u32 (s.D : Int))) [(0, true), (1, true), (2, true), (3, true), (4, true), (5, true), (6, true), (7, true), (8, true), (9, true), (10, true), (11, true), (12, true), (13, true), (14, true), (15, true), (16, true), (17, true), (18, true)] (by kernel_rfl) (by kernel_rfl) (by kernel_rfl) (by kernel_rfl) ⟨cell_of_row _ _ 1 _ _ _ (K.drew.get 1 rfl), HBW.out _ _ (k.trans K.keep_drew), HBR.out _ _ (k.trans K.keep_drew), cell_of_row _ _ 0 _ _ _ (K.drew.get 0 rfl)⟩ ?_
  simp only [List.map_cons, List.map_nil, List.getElem?_toArray, List.getElem?_cons_zero, List.getElem?_cons_succ]
  replace k := k.trans K.keep_drew
  replace K := K.drew
  obtain ⟨w2, hw2⟩ : ∃ W, W = w1.drew := ⟨_, rfl⟩
  rw [← hw2] at K k ⊢
  clear hw2
  repeat (first | (refine Plan.take ?_ (by rfl) ?_ ?_; rotate_left; (· rintro w9 ⟨u0, u1, u2, u3⟩; go_simp; (try rw [if_neg (by omega)]); all_goals (with_reducible rfl)); simp only [Act.put, List.setIfInBounds_toArray, List.set_cons_zero, List.set_cons_succ]) | (refine Plan.pass (by rfl) ?_; simp only [Act.put, List.setIfInBounds_toArray, List.set_cons_zero, List.set_cons_succ]))
  refine Plan.ends ?_
  generalize andN (B1 ||| B2) s.D = NB at *
  clear hand hor hor2 hB1 hB2 HBW HBR
  have hcG := cell_of_row _ _ 0 _ _ _ (K.get 1 rfl)
  go_wp2_with fail
  clear hcG
  go_loopw [35] (fun x wr => ∃ i : Nat, x = .int .i64 (i : Int) ∧ i ≤ sn ∧ ∃ ov1, Env w0 wr (sTs S g (some x0) sn sc (some y) bc mb X (loopS S (needP S s.D wi ri) s i) ov1 (lseenT mb Sn :: T)) ∧ Keep w0 F w (oTs S g (some x0) sn sc (some y) bc mb s ov (lseenT mb Sn :: T)) wr (sTs S g (some x0) sn sc (some y) bc mb X (loopS S (needP S s.D wi ri) s i) ov1 (lseenT mb Sn :: T))) (fun x _ => sn - (intOf x).toNat)
  case atStart => exact ⟨0, rfl, by omega, ov, K, k⟩
  case round =>
    clear K k
    obtain ⟨i, rfl, hi', ov1, K, k⟩ := hrel
    by_cases hi : i < sn
    · obtain ⟨x, a, hx, ha, c0, c1, c2, c3, c4⟩ := stp_at (sl.keep k) i hi
      obtain rfl := Option.some.inj hx
      have hiI : (i : Int) < (sn : Int) := by omega
      have hi30 : i ≤ 30 := by omega
      have HX := Lib.hid (@loop_next S (needP S s.D wi ri) s i a ha)
      obtain ⟨hD, ho⟩ := HL.out i
      have HC := Lib.hid (fun W => has_any NB i hNB hi30 W)
      generalize loopS S (needP S s.D wi ri) s i = t at *
      generalize hR : needP S s.D wi ri t i a = R at *
      rw [HNP.out] at hR
      clear ha hx
      obtain ⟨ay, ar, av, af, au⟩ := a
      simp only at c0 c1 c2 c3 c4 hR
      go_upto_region 5 with fail
      have k9 := K.keep_al (F := F) (.cells #[.int .i64 ay, .bool ar, .string av, .int .i64 af, .int .i64 au] 94)
      have K9 := K.al (.cells #[.int .i64 ay, .bool ar, .string av, .int .i64 af, .int .i64 au] 94)
      replace k := k.trans k9
      clear k9 K
      have K := K9
      clear K9
      obtain ⟨gx, hg⟩ : ∃ gx, wr.heap.size = gx := ⟨_, rfl⟩
      rw [hg] at K k
      simp only [hg]
      generalize wr.alloc (.cells #[.int .i64 ay, .bool ar, .string av, .int .i64 af, .int .i64 au] 94) = w1 at *
      clear c0 c1 c2 c3 c4 hg
      obtain ⟨c0, c1, c2, c3, c4⟩ := stp_cells (K.get 0 rfl)
      generalize hbit : NB.testBit i = z at *
      clear hbit
      cases z with
      | false =>
        have hR' : R = false := by
          rw [← hR]; rfl
        have HQ := Lib.hid hR'
        clear hR hR'
        go_wp2_with (first
          | (go_at_call 134; ((with_reducible refine (HC.out _).mono ?_); rintro r9 w3 ⟨rfl, h9⟩; replace k := k.trans (K.keep_on h9); replace K := K.on h9; clear h9; obtain ⟨c0, c1, c2, c3, c4⟩ := stp_cells (K.get 0 rfl))))
        replace k := k.trans (K.keep_sub fun _ h => List.mem_cons_of_mem _ h)
        replace K := K.tail
        rw [← HX.out.2 HQ.out] at K k
        go_roundw
        case rel => exact ⟨i + 1, by go_num, by omega, _, K, k⟩
        case measure => simp [intOf]; omega
      | true =>
        by_cases hiw : i = wi
        · have hR' : R = false := by rw [← hR, decide_eq_false (fun h => h hiw)]; simp
          have HQ := Lib.hid hR'
          clear hR hR'
          subst hiw
          have hne : ((i : Int) != (i : Int)) = false := by simp
          go_wp2_with (first
            | (go_at_call 134; ((with_reducible refine (HC.out _).mono ?_); rintro r9 w3 ⟨rfl, h9⟩; replace k := k.trans (K.keep_on h9); replace K := K.on h9; clear h9; obtain ⟨c0, c1, c2, c3, c4⟩ := stp_cells (K.get 0 rfl))))
          replace k := k.trans (K.keep_sub fun _ h => List.mem_cons_of_mem _ h)
          replace K := K.tail
          rw [← HX.out.2 HQ.out] at K k
          go_roundw
          case rel => exact ⟨i + 1, by go_num, by omega, _, K, k⟩
          case measure => simp [intOf]; omega
        · have hne : ((i : Int) != (wi : Int)) = true := by simp; omega
          have hne2 : ¬ (i : Int) = (wi : Int) := by omega
          cases ar with
          | true =>
            have hR' : R = false := by rw [← hR]; simp
            have HQ := Lib.hid hR'
            clear hR hR'
            go_wp2_with (first
              | (go_at_call 134; ((with_reducible refine (HC.out _).mono ?_); rintro r9 w3 ⟨rfl, h9⟩; replace k := k.trans (K.keep_on h9); replace K := K.on h9; clear h9; obtain ⟨c0, c1, c2, c3, c4⟩ := stp_cells (K.get 0 rfl))))
            replace k := k.trans (K.keep_sub fun _ h => List.mem_cons_of_mem _ h)
            replace K := K.tail
            rw [← HX.out.2 HQ.out] at K k
            go_roundw
            case rel => exact ⟨i + 1, by go_num, by omega, _, K, k⟩
            case measure => simp [intOf]; omega
          | false =>
            have hR' : R = true := by rw [← hR, decide_eq_true hiw]; rfl
            have HQ := Lib.hid hR'
            clear hR hR'
            go_upto_region 6 with (first
              | (go_at_call 134; ((with_reducible refine (HC.out _).mono ?_); rintro r9 w3 ⟨rfl, h9⟩; replace k := k.trans (K.keep_on h9); replace K := K.on h9; clear h9; obtain ⟨c0, c1, c2, c3, c4⟩ := stp_cells (K.get 0 rfl))))
            clear c0 c1 c2 c3 c4
            have HD := Lib.hid (do_go S g X mb sn sc bc i _ _ hn t w0 _ F (_ :: _) ov1 hD ho (K.perm perm4) (sl.keep (k.trans (K.keep_perm perm4))) (bl.keep (k.trans (K.keep_perm perm4))) hi)
            go_wp2_with (first
              | (go_at_call 135; ((with_reducible refine HD.out.mono ?_); rintro r9 w4 ⟨rfl, ov2, K2, k2⟩; replace k := (k.trans (K.keep_perm perm4)).trans (k2.trans (K2.keep_sub (T' := sTs S g _ sn sc _ bc mb X (doS S t i) ov2 _) mem4)); replace K := (K2.perm perm4.symm).tail; clear K2 k2)))
            rw [← HX.out.1 HQ.out] at K k
            go_roundw
            case rel => exact ⟨i + 1, by go_num, by omega, _, K, k⟩
            case measure => simp [intOf]; omega
    · obtain rfl : i = sn := by omega
      have hiI : ¬ (i : Int) < (i : Int) := by omega
      clear hiI
      obtain ⟨hD, ho⟩ := HL.out i
      rw [← HE1.out] at K k
      have hD1 : (need1 S s wi ri).D < 2 ^ 30 := by rw [HE1.out]; exact hD
      have ho1 : (need1 S s wi ri).o.length ≤ 1000 := by rw [HE1.out]; exact ho
      go_upto_region 8 with fail
      have HD := Lib.hid (do_go S g X mb i sc bc wi _ _ hn _ w0 _ F _ ov1 hD1 ho1 K (sl.keep k) (bl.keep k) hw)
      go_upto_region 9 with (first
        | (go_at_call 135; ((with_reducible refine HD.out.mono ?_); rintro r9 w4 ⟨rfl, ov2, K2, k2⟩; replace k := k.trans k2; replace K := K2; clear K2 k2)))
      clear HD
      have HR := Lib.hid (readAll_any S g X mb i sc bc _ _ hn v0 (pair2 S s wi ri) HG2.out w0 _ F _ ov2 K (sl.keep k) (bl.keep k))
      go_upto_region 10 with (first
        | (go_at_call 108; ((with_reducible refine HR.out.mono ?_); rintro r9 w5 ⟨rfl, ov3, K2, k2⟩; replace k := k.trans k2; replace K := K2; clear K2 k2)))
      clear HR
      rw [← HE3.out] at K k
      have HC := Lib.hid (fun W => has_any (pair3 S s wi ri).D ri HD3.out (by omega) W)
      have d0 := cell_of_row _ _ 0 _ _ _ (K.get 0 rfl)
      cases hbit : (pair3 S s wi ri).D.testBit ri with
      | false =>
        rw [hbit] at HC
        have HTN := Lib.hid (try_no (Sn := Sn) hp hbit)
        clear hbit
        go_wp2_with (first
          | (go_at_call 134; ((with_reducible refine (HC.out _).mono ?_); rintro r9 w6 ⟨rfl, h9⟩; replace k := k.trans (K.keep_on h9); replace K := K.on h9; clear h9)))
        go_ret
        exact fpost K.tail (k.trans (K.keep_sub fun _ h => List.mem_cons_of_mem _ h)) HTN.out
      | true =>
        rw [hbit] at HC
        have HTF := Lib.hid (fun b OL Sn' hf => try_fin (b := b) (OL := OL) (Sn := Sn) (Sn' := Sn') hp hbit hf)
        have HKN := Lib.hid (hk.pair hp hbit)
        have HMM := Lib.hid (hm hbit)
        clear hbit
        have HF := Lib.hid (fun W ov (K : Env w0 W (sTs S g (some x0) i sc (some y) bc mb X (pair3 S s wi ri) ov (lseenT mb Sn :: T))) (k : Keep w0 F w _ W (sTs S g (some x0) i sc (some y) bc mb X (pair3 S s wi ri) ov (lseenT mb Sn :: T))) => IH (pair3 S s wi ri) HMM.out HG3.out w0 W F (aT X (pair3 S s wi ri).D (pair3 S s wi ri).v :: T) ov Sn (K.perm perm4) (sl.keep (k.trans (K.keep_perm perm4))) (bl.keep (k.trans (K.keep_perm perm4))) HKN.out)
        go_wp2_with (first
          | (go_at_call 134; ((with_reducible refine (HC.out _).mono ?_); rintro r9 w6 ⟨rfl, h9⟩; replace k := k.trans (K.keep_on h9); replace K := K.on h9; clear h9 d0; clear HC))
          | ((with_reducible refine load_lit_g 136 (.tmp 5) X ?_ ?_ (K.get 0 rfl) Tryz.underlying136 ?_ ?_ ?_); (· rfl); (· rfl); (· rfl); (· exact lst_info); simp only [Act.put, List.setIfInBounds_toArray, List.set_cons_zero, List.set_cons_succ])
          | (go_at_call 89; ((with_reducible refine (HF.out _ _ K k).mono ?_); rintro r9 w7 ⟨ov4, n4, OL4, Sn4, b, rfl, K2, k2, hf⟩; replace k := (k.trans (K.keep_perm perm4)).trans (k2.trans (K2.keep_sub (T' := sT g (some x0) i sc (some y) bc mb ov4 :: Env.lst IR ov4 n4 OL4 :: lseenT mb Sn4 :: T) mem4)); replace K := (K2.perm perm4.symm).tail; clear K2 k2; have HB9 := Lib.hid hf; clear hf)))
        go_ret
        exact fpost K k (HTF.out _ _ _ HB9.out)
end Go.Proofs.YtnmhnjjehglcfaaGreat.Ents

/- The walk of the program's finish: a search of pairs. -/
namespace Go.Proofs.YtnmhnjjehglcfaaGreat.Ents
open Go.RowKit Plan HisMath LinMath Rws Env LayMath Bits SrchM
theorem any_is {P : Prop} {r : Ending} (h : AnyPost P r) (hp : P) : r = .returned (.bool true) := by
  obtain ⟨q, rfl, hq⟩ := h
  rw [hq.2 hp]
theorem any_isnt {P : Prop} {r : Ending} (h : AnyPost P r) (hp : ¬ P) : r = .returned (.bool false) := by
  obtain ⟨q, rfl, hq⟩ := h
  cases q with
  | false => rfl
  | true => exact absurd (hq.1 rfl) hp
theorem own_split {α : Type} {R : Row α} {w W : World} {T : List Thing} {v : Value} {n : Nat} {L : List α} (K : Env w W T) (i : Nat) (h : T[i]? = some (Env.lst R v n L)) : (v = .slice none 0 0 ∧ n = 0) ∨ ∃ gg c, v = Env.slv gg n c ∧ n ≤ c ∧ c ≤ 9223372036854775807 := by
  rcases (K.own i h).2 with h1 | ⟨gg, c, cur, h1, _, _, h2, h3, _⟩
  · exact .inl h1
  · exact .inr ⟨gg, c, h1, h2, h3⟩
theorem own_len {α : Type} {R : Row α} (hR : R.Ok) {w W : World} {T : List Thing} {v : Value} {n : Nat} {L : List α} (K : Env w W T) (i : Nat) (h : T[i]? = some (Env.lst R v n L)) : L.length = n := by
  have h1 := (K.own i h).1
  rw [all_length hR] at h1
  exact Nat.eq_of_mul_eq_mul_right hR.pos h1

theorem mem3q {a b c : Thing} {T : List Thing} : ∀ x ∈ a :: b :: T, x ∈ a :: b :: c :: T := fun x h => by
  simp only [List.mem_cons] at h ⊢
  rcases h with h | h | h
  · exact .inl h
  · exact .inr (.inl h)
  · exact .inr (.inr (.inr h))
theorem own_cut {α : Type} {R : Row α} (hR : R.Ok) {w W : World} {T : List Thing} {gg n c m : Nat} {L : List α} (K : Env w W T) (i : Nat) (h : T[i]? = some (Env.lst R (Env.slv gg n c) n L)) (hm : m ≤ n) {L' : List α} (hL : L.take m = L') {F : Nat → Prop} : Env w W (T.set i (Env.lst R (Env.slv gg m c) m L')) ∧ Keep w F W T W (T.set i (Env.lst R (Env.slv gg m c) m L')) := by
  have hlen := own_len hR K i h
  have hown := K.own i h
  have hnew : W.ownsRow w.heap.size R.et R.sz (Env.slv gg m c) m (R.all L') := by
    obtain ⟨h1, h2⟩ := hown
    refine ⟨by rw [all_length hR, ← hL, List.length_take, hlen, Nat.min_eq_left hm], ?_⟩
    rcases h2 with ⟨h2, _⟩ | ⟨g', c', cur, h2, h3, h4, h5, h6, h7, h8⟩
    · cases h2
    · cases h2
      refine .inr ⟨gg, c, cur, rfl, h3, h4, Nat.le_trans hm h5, h6, h7, ?_⟩
      rw [← hL, all_take hR, ← h8, List.take_take, Nat.min_eq_left (Nat.mul_le_mul_right _ hm)]
  have hgr : W.grownBy W (some gg) := ⟨rfl, rfl, rfl, Nat.le_refl _, fun _ _ _ => rfl⟩
  exact ⟨K.set hgr i h (fun g' e => e) hnew (fun g' e => .inl e), K.keep_set hgr i h (fun g' e => e) (fun g' e => .inl e)⟩
theorem own_cutv {α : Type} {R : Row α} (hR : R.Ok) {w W : World} {T : List Thing} {a : Option Addr} {n c m : Nat} {L : List α} (K : Env w W T) (i : Nat) (h : T[i]? = some (Env.lst R (.slice a n c) n L)) (hm : m ≤ n) {L' : List α} (hL : L.take m = L') {F : Nat → Prop} : Env w W (T.set i (Env.lst R (.slice a m c) m L')) ∧ Keep w F W T W (T.set i (Env.lst R (.slice a m c) m L')) := by
  rcases own_split K i h with ⟨h1, h2⟩ | ⟨gg, cc, h1, _⟩
  · cases h1
    clear h2
    obtain rfl : m = 0 := by omega
    have hl := own_len hR K i h
    obtain rfl := List.length_eq_zero_iff.1 hl
    rw [List.take_nil] at hL
    subst hL
    have hlt := (List.getElem?_eq_some_iff.1 h).1
    have : T.set i (Env.lst R (.slice none 0 0) 0 []) = T := by
      apply List.ext_getElem?
      intro j
      by_cases hj : i = j
      · subst hj; rw [List.getElem?_set_self hlt]; exact h.symm
      · rw [List.getElem?_set_ne hj]
    rw [this]
    exact ⟨K, K.keep_refl⟩
  · cases h1
    exact own_cut hR K i h hm hL
theorem ser_len (S : List Stp) (o : List Nat) : (serO S o).length = o.length := by simp [serO]
set_option maxHeartbeats 8000000 in
set_option maxRecDepth 20000 in
theorem finish_any (S : List Stp) (hS : SOk S) (g mb sn sc bc : Nat) (sa ba : Option Addr) (hn : sn ≤ 30) (hsl : S.length = sn) (v0 : ByteArray) (hv0 : v0.size ≤ maxLen) (hvs : ∀ a ∈ S, a.value.size ≤ maxLen) : ∀ m, FinC S g sa sn sc ba bc mb v0 m := by
  intro m
  induction m with
  | zero =>
    intro s hm h0
    have := (goes_lim h0).1
    rw [hsl] at this
    omega
  | succ m ih =>
    intro s hm h0 w0 w F T ov Sn K0 sl bl hk
    have IH := Lib.hid ih
    clear ih
    have hG := h0.trans (read_goes s sn).1
    obtain ⟨hD1, ho1⟩ := goes_lim hG
    rw [hsl] at hD1 ho1
    have HD1s := Lib.hid hD1
    replace hD1 := pow_lt30 hn hD1
    have hv1 : (loopS S readP s sn).v.size ≤ maxLen := by
      rcases hG.value with h | ⟨a, ha, h⟩
      · rw [h]; exact hv0
      · rw [← h]; exact hvs a ha
    have HRS := Lib.hid (fun (hr : ¬ ∃ i, isR S i ∧ (loopS S readP s sn).D.testBit i = false) => (show FinM S s Sn true (serO S (loopS S restP (loopS S readP s sn) sn).o) Sn from by
      have hL := hsl
      subst hL
      exact fin_rest hS hr))
    have hlen := Lib.hid hsl
    replace h0 := Lib.hid h0
    replace hk := Lib.hid hk
    replace hm := Lib.hid hm
    have HGr := Lib.hid hG
    clear hsl hG hv0 hvs
    have K := K0.al (.cells #[.int .u32 (s.D : Int), .string s.v] 136)
    have k := K0.keep_al (F := F) (.cells #[.int .u32 (s.D : Int), .string s.v] 136)
    obtain ⟨X, hX⟩ : ∃ X, w.heap.size = X := ⟨_, rfl⟩
    rw [hX] at K k
    clear K0
    go_enter Tryz.func89, Tryz.ntmps89
    go_upto_region 1 with fail
    (try simp only [hX])
    clear hX
    generalize w.alloc (.cells #[.int .u32 (s.D : Int), .string s.v] 136) = w1 at *
    have HRD := Lib.hid (readAll_any S g X mb sn sc bc sa ba hn v0 s h0.out w0 _ F _ ov K (sl.keep k) (bl.keep k))
    go_upto_region 2 with (first
      | (go_at_call 108; ((with_reducible refine HRD.out.mono ?_); rintro r9 w2 ⟨rfl, ov1, K2, k2⟩; replace k := k.trans k2; replace K := K2; clear K2 k2)))
    clear HRD
    have HHR := Lib.hid (hasReads_any S g sn sc (loopS S readP s sn).D sa (loopS S readP s sn).v _ _ _ hn hD1 _ _ (K.get 1 rfl) (sl.keep k))
    have hK1 := Lib.hid (show KnownG S (loopS S readP s sn).D Sn from KnownE.read hk.out)
    by_cases hleft : ∃ i, isR S i ∧ (loopS S readP s sn).D.testBit i = false
    · have hl := Lib.hid hleft
      clear hleft
      have HSN := Lib.hid (fun hm => fin_seen (n := sn) hk.out hm)
      have HDN := Lib.hid (fun i j Sn2 (h : FSt S (loopS S readP s sn) Sn i j Sn2) (hi : sn ≤ i) => (show FinM S s Sn false (serO S (loopS S readP s sn).o) Sn2 from by
        have hL := hlen.out
        subst hL
        exact FSt.done hS h hi hl.out))
      have HFD := Lib.hid (fun i j Sn2 OL Sn3 (ht : TryM S (loopS S readP s sn) i j Sn2 true OL Sn3) => FSt.found (s := s) (Sn := Sn) ht)
      have HLE := Lib.hid (read_goes (S := S) s sn).1.le
      have HG1 := Lib.hid (h0.out.trans (read_goes s sn).1)
      clear hk h0 HRS hS
      generalize loopS S readP s sn = s1 at *
      go_upto_region 5 with (first
        | ((with_reducible refine Plan.load_lit 136 (.tmp 3) X ?_ (K.get 0 rfl) Tryz.underlying136 ?_ ?_ ?_); (· rfl); (· rfl); (· exact lst_info); simp only [Act.put, List.setIfInBounds_toArray, List.set_cons_zero, List.set_cons_succ])
        | (go_at_call 109; ((with_reducible refine HHR.out.mono ?_); rintro r9 w3 ⟨hr9, h9⟩; obtain rfl := any_is hr9 hl.out; replace k := k.trans (K.keep_on h9); replace K := K.on h9; clear h9 hr9)))
      clear HHR
      obtain ⟨w4, hw4⟩ := K.name
      rw [← hw4] at K k ⊢
      clear hw4
      by_cases hs : ((s1.D : Int), s1.v) ∈ Sn
      · have HF := Lib.hid (HSN.out hs)
        have hp0 : 0 ≤ ((s1.D : Int), s1.v).1 := by show 0 ≤ (s1.D : Int); omega
        have hp1 : ((s1.D : Int), s1.v).1 ≤ 4294967295 := by show (s1.D : Int) ≤ 4294967295; omega
        refine Plan.start (fun W => W.cell? ⟨g, 2, none⟩ = some (.map (some mb)) ∧ W.heap[X]? = some (.cells #[.int .u32 (s1.D : Int), .string s1.v] 136 (0, 0)) ∧ LsSeen W mb Sn) [(0, true), (1, true), (2, true), (3, true), (4, true), (5, true)] (by kernel_rfl) (by kernel_rfl) (by kernel_rfl) (by kernel_rfl) ⟨cell_of_row _ _ 2 _ _ _ (K.drew.get 1 rfl), K.drew.get 0 rfl, lenv_seen K.drew 3 rfl⟩ ?_
        simp only [List.map_cons, List.map_nil, List.getElem?_toArray, List.getElem?_cons_zero, List.getElem?_cons_succ]
        replace k := k.trans K.keep_drew
        replace K := K.drew
        obtain ⟨w5, hw5⟩ := K.name
        rw [← hw5] at K k ⊢
        clear hw5
        iterate 4 (first | (refine Plan.take ?_ (by rfl) ?_ ?_; rotate_left; (· rintro w9 ⟨u0, u1, u2⟩; go_simp; all_goals (with_reducible rfl)); simp only [Act.put, List.setIfInBounds_toArray, List.set_cons_zero, List.set_cons_succ]))
        refine Plan.take_load 136 (.tmp 3) X _ (by rfl) rfl (by rfl) (fun w9 h9 => h9.2.1) Tryz.underlying136 rfl lst_info ?_
        simp only [Act.put, List.setIfInBounds_toArray, List.set_cons_zero, List.set_cons_succ]
        refine ltake_seen (p := ((s1.D : Int), s1.v)) (.tmp 20) (.tmp 21) (by rfl) rfl (by rfl) (by rfl) (fun w9 h9 => h9.2.2) hp0 hp1 hv1 (lhasSt_iff.2 hs) ?_
        simp only [Act.put, List.setIfInBounds_toArray, List.set_cons_zero, List.set_cons_succ]
        refine Plan.ends ?_
        go_wp2_with fail
        go_ret
        exact fpost K.tail (k.trans (K.keep_sub fun _ h => List.mem_cons_of_mem _ h)) HF.out
      · have hh := lhasSt_no hs
        have hp0 : 0 ≤ ((s1.D : Int), s1.v).1 := by show 0 ≤ (s1.D : Int); omega
        have hp1 : ((s1.D : Int), s1.v).1 ≤ 4294967295 := by show (s1.D : Int) ≤ 4294967295; omega
        refine Plan.start (fun W => W.cell? ⟨g, 2, none⟩ = some (.map (some mb)) ∧ W.heap[X]? = some (.cells #[.int .u32 (s1.D : Int), .string s1.v] 136 (0, 0)) ∧ LsSeen W mb Sn) [(0, true), (1, true), (2, true), (3, true), (4, true), (5, true)] (by kernel_rfl) (by kernel_rfl) (by kernel_rfl) (by kernel_rfl) ⟨cell_of_row _ _ 2 _ _ _ (K.drew.get 1 rfl), K.drew.get 0 rfl, lenv_seen K.drew 3 rfl⟩ ?_
        simp only [List.map_cons, List.map_nil, List.getElem?_toArray, List.getElem?_cons_zero, List.getElem?_cons_succ]
        replace k := k.trans K.keep_drew
        replace K := K.drew
        obtain ⟨w5, hw5⟩ := K.name
        rw [← hw5] at K k ⊢
        clear hw5
        iterate 4 (first | (refine Plan.take ?_ (by rfl) ?_ ?_; rotate_left; (· rintro w9 ⟨u0, u1, u2⟩; go_simp; all_goals (with_reducible rfl)); simp only [Act.put, List.setIfInBounds_toArray, List.set_cons_zero, List.set_cons_succ]))
        refine Plan.take_load 136 (.tmp 3) X _ (by rfl) rfl (by rfl) (fun w9 h9 => h9.2.1) Tryz.underlying136 rfl lst_info ?_
        simp only [Act.put, List.setIfInBounds_toArray, List.set_cons_zero, List.set_cons_succ]
        refine ltake_seen (p := ((s1.D : Int), s1.v)) (.tmp 20) (.tmp 21) (by rfl) rfl (by rfl) (by rfl) (fun w9 h9 => h9.2.2) hp0 hp1 hv1 hh ?_
        simp only [Act.put, List.setIfInBounds_toArray, List.set_cons_zero, List.set_cons_succ]
        refine Plan.ends ?_
        clear hh
        obtain ⟨W1, hup, K1, k1⟩ := lenv_put K.drew 3 rfl hp0 hp1 hv1 hs
        simp only [List.set] at K1 k1
        go_upto_region 7 with fail
        refine Plan.start (fun W => W.cell? ⟨g, 2, none⟩ = some (.map (some mb)) ∧ W.heap[X]? = some (.cells #[.int .u32 (s1.D : Int), .string s1.v] 136 (0, 0))) [(0, true), (1, true), (2, true), (3, true), (4, true), (5, false)] (by kernel_rfl) (by kernel_rfl) (by kernel_rfl) (by kernel_rfl) ⟨cell_of_row _ _ 2 _ _ _ (K.drew.get 1 rfl), K.drew.get 0 rfl⟩ ?_
        simp only [List.map_cons, List.map_nil, List.getElem?_toArray, List.getElem?_cons_zero, List.getElem?_cons_succ]
        iterate 4 (first | (refine Plan.take ?_ (by rfl) ?_ ?_; rotate_left; (· rintro w9 ⟨u0, u1⟩; go_simp; all_goals (with_reducible rfl)); simp only [Act.put, List.setIfInBounds_toArray, List.set_cons_zero, List.set_cons_succ]))
        refine Plan.take_load 136 (.tmp 3) X _ (by rfl) rfl (by rfl) (fun w9 h9 => h9.2) Tryz.underlying136 rfl lst_info ?_
        simp only [Act.put, List.setIfInBounds_toArray, List.set_cons_zero, List.set_cons_succ]
        refine Plan.carry (by rfl) (lwp_seen (p := ((s1.D : Int), s1.v)) (.tmp 26) (.tmp 27) (.const (.bool true)) rfl (by rfl) (by rfl) (by rfl) hup ?_)
        refine ⟨⟨cell_of_row _ _ 2 _ _ _ (K1.get 1 rfl), K1.get 0 rfl⟩, ?_⟩
        simp only [Act.put]
        refine Plan.ends ?_
        replace k := (k.trans K.keep_drew).trans (k1 F)
        clear K k1 hup
        have K := K1
        clear K1
        have HST := Lib.hid (FSt.start (S := S) (s := s1) (Sn := Sn))
        clear hs
        have hsp := own_split K 2 rfl
        have hcO := cell_of_row _ _ 3 _ _ _ (K.get 1 rfl)
        have hcG := cell_of_row _ _ 0 _ _ _ (K.get 1 rfl)
        obtain ⟨oa, oc, hov⟩ : ∃ oa oc, ov1 = .slice oa s1.o.length oc := by
          rcases hsp with ⟨h1, h2⟩ | ⟨gg, c, h1, _⟩
          · exact ⟨none, 0, by rw [h1, h2]⟩
          · exact ⟨_, _, h1⟩
        clear hsp
        subst hov
        go_wp2_with fail
        clear hcO hcG
        go_loopw [38] (fun x wr => ∃ i : Nat, x = .int .i64 (i : Int) ∧ i ≤ sn ∧ ∃ ov2 Sn2, Env w0 wr (sTs S g sa sn sc ba bc mb X s1 ov2 (lseenT mb Sn2 :: T)) ∧ Keep w0 F w (oTs S g sa sn sc ba bc mb s ov (lseenT mb Sn :: T)) wr (sTs S g sa sn sc ba bc mb X s1 ov2 (lseenT mb Sn2 :: T)) ∧ RowKit.Hid (FSt S s1 Sn i 0 Sn2)) (fun x _ => sn - (intOf x).toNat)
        case atStart => exact ⟨0, rfl, by omega, _, _, K, k, HST⟩
        case round =>
          clear K k HST
          obtain ⟨i, rfl, hi', ov2, Sn2, K, k, HST⟩ := hrel
          by_cases hi : i < sn
          · have hiI : (i : Int) < (sn : Int) := by omega
            have hcG := cell_of_row _ _ 0 _ _ _ (K.get 1 rfl)
            go_wp2_with fail
            clear hcG
            go_loopw [46] (fun x wr => ∃ j : Nat, x = .int .i64 (j : Int) ∧ j ≤ sn ∧ ∃ ov2 Sn2, Env w0 wr (sTs S g sa sn sc ba bc mb X s1 ov2 (lseenT mb Sn2 :: T)) ∧ Keep w0 F w (oTs S g sa sn sc ba bc mb s ov (lseenT mb Sn :: T)) wr (sTs S g sa sn sc ba bc mb X s1 ov2 (lseenT mb Sn2 :: T)) ∧ RowKit.Hid (FSt S s1 Sn i j Sn2)) (fun x _ => sn - (intOf x).toNat)
            case atStart => exact ⟨0, rfl, by omega, _, _, K, k, HST⟩
            case round =>
              clear K k HST
              obtain ⟨j, rfl, hj', ov3, Sn3, K, k, HST⟩ := hrel
              by_cases hj : j < sn
              · have hjI : (j : Int) < (sn : Int) := by omega
                have HIP := Lib.hid (isPair_any S g sn sc s1.D i j sa s1.v _ _ _ hn hD1 _ _ (K.get 1 rfl) (sl.keep k) hi hj)
                have HIG := Lib.hid (fun hnp : ¬ isPair S s1 i j => HST.out.skip hnp)
                by_cases hpp : isPair S s1 i j
                · have HPP := Lib.hid hpp
                  have HTP := Lib.hid (fun W ov2 (K : Env w0 W (sTs S g sa sn sc ba bc mb X s1 ov2 (lseenT mb Sn3 :: T))) (k : Keep w0 F w _ W (sTs S g sa sn sc ba bc mb X s1 ov2 (lseenT mb Sn3 :: T))) => tryPair_any S g mb sn sc bc i j m sa ba hn v0 IH.out s1 HG1.out hi hj hpp w0 W F (aT X s1.D s1.v :: T) ov2 Sn3 (HST.out.known hK1.out) (fun hb => by have := pair_lt hpp hb; have := HLE.out; have := hm.out; omega) (K.perm perm4) (sl.keep (k.trans (K.keep_perm perm4))) (bl.keep (k.trans (K.keep_perm perm4))))
                  have HTD := Lib.hid (fun OL Sn4 (ht : TryM S s1 i j Sn3 false OL Sn4) => HST.out.tried ht)
                  have HFN := Lib.hid (fun OL Sn4 (ht : TryM S s1 i j Sn3 true OL Sn4) => HFD.out i j Sn3 OL Sn4 ht)
                  clear hpp HIG HST
                  go_upto_region 15 with fail
                  go_cut [60] (fun v wx => ∃ (ov4 : Value) (n4 : Nat) (OL4 : List Int) (Sn4 : List (Int × ByteArray)) (b : Bool), v = .bool b ∧ Env w0 wx (aT X s1.D s1.v :: sT g sa sn sc ba bc mb ov4 :: Env.lst IR ov4 n4 OL4 :: lseenT mb Sn4 :: T) ∧ Keep w0 F w (oTs S g sa sn sc ba bc mb s ov (lseenT mb Sn :: T)) wx (aT X s1.D s1.v :: sT g sa sn sc ba bc mb ov4 :: Env.lst IR ov4 n4 OL4 :: lseenT mb Sn4 :: T) ∧ RowKit.Hid (TryM S s1 i j Sn3 b OL4 Sn4))
                  case first =>
                    go_wp2_with (first
                      | ((with_reducible refine Plan.load_lit 136 (.tmp 3) X ?_ (K.get 0 rfl) Tryz.underlying136 ?_ ?_ ?_); (· rfl); (· rfl); (· exact lst_info); simp only [Act.put, List.setIfInBounds_toArray, List.set_cons_zero, List.set_cons_succ])
                      | ((with_reducible refine load_lit_g 136 (.tmp 3) X ?_ ?_ (K.get 0 rfl) Tryz.underlying136 ?_ ?_ ?_); (· rfl); (· rfl); (· rfl); (· exact lst_info); simp only [Act.put, List.setIfInBounds_toArray, List.set_cons_zero, List.set_cons_succ])
                      | (go_at_call 111; ((with_reducible refine HIP.out.mono ?_); rintro r9 w6 ⟨hr9, h9⟩; obtain rfl := any_is hr9 HPP.out; replace k := k.trans (K.keep_on h9); replace K := K.on h9; clear h9 hr9))
                      | (go_at_call 112; ((with_reducible refine (HTP.out _ _ K k).mono ?_); rintro r9 w7 ⟨ov4, n4, OL4, Sn4, b, rfl, K2, k2, hf⟩; replace k := (k.trans (K.keep_perm perm4)).trans (k2.trans (K2.keep_perm perm4.symm)); replace K := K2.perm perm4.symm; clear K2 k2; have HB9 := Lib.hid hf; clear hf)))
                    go_meet
                    exact ⟨_, _, _, _, _, rfl, K, k, HB9⟩
                  case rest =>
                    clear K k HTP HIP HPP
                    obtain ⟨ov4, n4, OL4, Sn4, b, rfl, K, k, HB9⟩ := hcut
                    cases b with
                    | true =>
                      have HF := Lib.hid (HFN.out _ _ HB9.out)
                      go_wp2_with fail
                      go_ret
                      exact fpost K.tail (k.trans (K.keep_sub fun _ h => List.mem_cons_of_mem _ h)) HF.out
                    | false =>
                      have HNX := Lib.hid (HTD.out _ _ HB9.out)
                      have HPR := Lib.hid (HB9.out.ord rfl)
                      clear HB9 HFN HTD
                      obtain ⟨hle, HPRE⟩ : s1.o.length ≤ n4 ∧ RowKit.Hid (List.take s1.o.length (OL4) = serO S s1.o) := by
                        obtain ⟨md, hmd⟩ := HPR.out
                        have hlq := own_len irOk K 2 rfl
                        refine ⟨by (have h9 := congrArg List.length hmd; rw [hlq] at h9; simp only [List.length_append, ser_len] at h9; omega), Lib.hid ?_⟩
                        rw [hmd, List.take_append_of_le_length (by rw [ser_len]; exact Nat.le_refl _), List.take_of_length_le (by rw [ser_len]; exact Nat.le_refl _)]
                      clear HPR
                      obtain ⟨oa4, oc4, hov, hoc1, hoc2⟩ : ∃ oa4 oc4, ov4 = .slice oa4 (n4) oc4 ∧ n4 ≤ oc4 ∧ oc4 ≤ 9223372036854775807 := by
                        rcases own_split K 2 rfl with ⟨h1, h2⟩ | ⟨gg, cc, h1, h2, h3⟩
                        · exact ⟨none, 0, by rw [h1, h2], by omega, by omega⟩
                        · exact ⟨_, _, h1, h2, h3⟩
                      subst hov
                      have hoc3 : (s1.o.length : Int) ≤ (oc4 : Int) := by omega
                      have hoc4 : s1.o.length ≤ oc4 := by omega
                      have hfO := K.free 1 rfl 3
                      have hcO := cell_of_row _ _ 3 _ _ _ (K.get 1 rfl)
                      go_upto_region 18 with fail
                      have K7 := K.put1 1 rfl 3 (.slice oa4 s1.o.length oc4) (cs' := #[.slice sa sn sc, .slice ba sn bc, .map (some mb), .slice oa4 s1.o.length oc4]) rfl rfl
                      have k7 := K.keep_put1 (F := F) 1 rfl 3 (.slice oa4 s1.o.length oc4) (cs' := #[.slice sa sn sc, .slice ba sn bc, .map (some mb), .slice oa4 s1.o.length oc4]) rfl rfl
                      simp only [List.set] at K7 k7
                      obtain ⟨K8, k8⟩ := own_cutv irOk (F := F) K7 2 rfl hle HPRE.out
                      simp only [List.set] at K8 k8
                      replace k := k.trans (k7.trans k8)
                      clear K K7 k7 k8 hfO hcO hoc3 hoc4
                      have K := K8
                      clear K8
                      go_wp2_with fail
                      go_roundw
                      case rel => exact ⟨j + 1, by go_num, by omega, _, _, K, k, HNX⟩
                      case measure => simp [intOf]; omega
                · have HNX := Lib.hid (HIG.out hpp)
                  have HPP := Lib.hid hpp
                  clear hpp HIG HST
                  go_upto_region 17 with (first
                    | ((with_reducible refine Plan.load_lit 136 (.tmp 3) X ?_ (K.get 0 rfl) Tryz.underlying136 ?_ ?_ ?_); (· rfl); (· rfl); (· exact lst_info); simp only [Act.put, List.setIfInBounds_toArray, List.set_cons_zero, List.set_cons_succ])
                    | (go_at_call 111; ((with_reducible refine HIP.out.mono ?_); rintro r9 w6 ⟨hr9, h9⟩; obtain rfl := any_isnt hr9 HPP.out; replace k := k.trans (K.keep_on h9); replace K := K.on h9; clear h9 hr9)))
                  clear HIP HPP
                  have hle : s1.o.length ≤ s1.o.length := Nat.le_refl _
                  have HPRE : RowKit.Hid (List.take s1.o.length (serO S s1.o) = serO S s1.o) := Lib.hid (List.take_of_length_le (by rw [ser_len]; exact Nat.le_refl _))
                  obtain ⟨oa4, oc4, hov, hoc1, hoc2⟩ : ∃ oa4 oc4, ov3 = .slice oa4 (s1.o.length) oc4 ∧ s1.o.length ≤ oc4 ∧ oc4 ≤ 9223372036854775807 := by
                    rcases own_split K 2 rfl with ⟨h1, h2⟩ | ⟨gg, cc, h1, h2, h3⟩
                    · exact ⟨none, 0, by rw [h1, h2], by omega, by omega⟩
                    · exact ⟨_, _, h1, h2, h3⟩
                  subst hov
                  have hoc3 : (s1.o.length : Int) ≤ (oc4 : Int) := by omega
                  have hoc4 : s1.o.length ≤ oc4 := by omega
                  have hfO := K.free 1 rfl 3
                  have hcO := cell_of_row _ _ 3 _ _ _ (K.get 1 rfl)
                  go_upto_region 18 with fail
                  have K7 := K.put1 1 rfl 3 (.slice oa4 s1.o.length oc4) (cs' := #[.slice sa sn sc, .slice ba sn bc, .map (some mb), .slice oa4 s1.o.length oc4]) rfl rfl
                  have k7 := K.keep_put1 (F := F) 1 rfl 3 (.slice oa4 s1.o.length oc4) (cs' := #[.slice sa sn sc, .slice ba sn bc, .map (some mb), .slice oa4 s1.o.length oc4]) rfl rfl
                  simp only [List.set] at K7 k7
                  obtain ⟨K8, k8⟩ := own_cutv irOk (F := F) K7 2 rfl hle HPRE.out
                  simp only [List.set] at K8 k8
                  replace k := k.trans (k7.trans k8)
                  clear K K7 k7 k8 hfO hcO hoc3 hoc4
                  have K := K8
                  clear K8
                  go_wp2_with fail
                  go_roundw
                  case rel => exact ⟨j + 1, by go_num, by omega, _, _, K, k, HNX⟩
                  case measure => simp [intOf]; omega
              · obtain rfl : j = sn := by omega
                have hjI : ¬ (j : Int) < (j : Int) := by omega
                have HNX := Lib.hid (HST.out.row (by rw [hlen.out]; exact Nat.le_refl _))
                go_wp2_with fail
                go_roundw
                case rel => exact ⟨i + 1, by go_num, by omega, _, _, K, k, HNX⟩
                case measure => simp [intOf]; omega
          · obtain rfl : i = sn := by omega
            have hiI : ¬ (i : Int) < (i : Int) := by omega
            have HF := Lib.hid (HDN.out _ _ _ HST.out (Nat.le_refl _))
            go_wp2_with fail
            go_ret
            exact fpost K.tail (k.trans (K.keep_sub fun _ h => List.mem_cons_of_mem _ h)) HF.out
    · have HRS2 := Lib.hid (HRS.out hleft)
      have hl := Lib.hid hleft
      have HWR := Lib.hid (fun W ov1 (K : Env w0 W (sTs S g sa sn sc ba bc mb X (loopS S readP s sn) ov1 (lseenT mb Sn :: T))) (k : Keep w0 F w _ W (sTs S g sa sn sc ba bc mb X (loopS S readP s sn) ov1 (lseenT mb Sn :: T))) => writeRest_any S g mb sn sc bc sa ba hn v0 (loopS S readP s sn) (h0.out.trans (read_goes s sn).1) (fun i hi => by
          cases hq : (loopS S readP s sn).D.testBit i with
          | true => rfl
          | false => exact absurd ⟨i, hi, hq⟩ hl.out) w0 W F (aT X (loopS S readP s sn).D (loopS S readP s sn).v :: lseenT mb Sn :: T) ov1 (K.perm perm3) (sl.keep (k.trans (K.keep_perm perm3))) (bl.keep (k.trans (K.keep_perm perm3))))
      clear hleft hk HRS
      go_wp2_with (first
        | ((with_reducible refine Plan.load_lit 136 (.tmp 3) X ?_ (K.get 0 rfl) Tryz.underlying136 ?_ ?_ ?_); (· rfl); (· rfl); (· exact lst_info); simp only [Act.put, List.setIfInBounds_toArray, List.set_cons_zero, List.set_cons_succ])
        | (go_at_call 109; ((with_reducible refine HHR.out.mono ?_); rintro r9 w3 ⟨hr9, h9⟩; obtain rfl := any_isnt hr9 hl.out; replace k := k.trans (K.keep_on h9); replace K := K.on h9; clear h9 hr9))
        | (go_at_call 110; ((with_reducible refine (HWR.out _ _ K k).mono ?_); rintro r9 w4 ⟨rfl, ov2, K2, k2⟩; replace k := (k.trans (K.keep_perm perm3)).trans (k2.trans (K2.keep_sub (T' := oTs S g sa sn sc ba bc mb (loopS S restP (loopS S readP s sn) sn) ov2 (lseenT mb Sn :: T)) mem3q)); replace K := (K2.perm perm3').tail; clear K2 k2)))
      go_ret
      exact fpost K k HRS2.out
end Go.Proofs.YtnmhnjjehglcfaaGreat.Ents
