/- Texts that belong together, part 5. -/
import Derived.Test.YtlplomofgbmgaaaPack4
import Derived.OwnWalk
import Derived.Laws.AppendOwn
import Derived.Laws.AppendOwnNone
import Derived.WalkMore

/- The walks of the maker's dice: Light, Roll, Next, for any list of numbers. -/
namespace Go.Proofs.Ytlplomofgbmgaaa
open Go.RowKit

/-- a list of numbers that came in -/
def IsRow (k : IntKind) (w : World) (a : Option Addr) (len cap : Nat) (zs : List Int) : Prop :=
  (a = none ∧ len = 0 ∧ cap = 0 ∧ zs = []) ∨
  ∃ x, a = some x ∧ len ≤ cap ∧ cap ≤ maxLen ∧ zs.length = cap ∧ (∀ i, i < zs.length → w.cell? (x.add i) = some (.int k (zs.getD i 0))) ∧ ∀ n ∈ zs, (Lit.int k n).wf = true
theorem IsRow.len_le {k : IntKind} {w : World} {a : Option Addr} {len cap : Nat} {zs : List Int} (h : IsRow k w a len cap zs) : len ≤ maxLen := by
  rcases h with ⟨_, rfl, _⟩ | ⟨x, _, h1, h2, _⟩
  · unfold maxLen; omega
  · omega
theorem light_any (a : Option Addr) (len cap : Nat) (w : World) :
    Calls Try.prog 9 #[.slice a len cap] w fun e w' => e = .returned (.bool (decide ((len : Int) ≤ 300))) ∧ w = w' := by
  go_enter Try.func9, Try.ntmps9
  go_wp2
  go_ret
  exact ⟨rfl, rfl⟩

/-- the numbers as cells -/
def ints (zs : List Int) : List Value := zs.map fun n => .int .i64 n
/-- dice: a pointer to a list of numbers of its own, and how many of them have been given out -/
def Dice (w : World) (base g : Nat) (zs : List Int) (k : Nat) : Prop :=
  ∃ v, w.heap[g]? = some (.cells #[v, .int .i64 k] 63 (0, 0)) ∧ w.ownsRow base 3 1 v zs.length (ints zs) ∧ (∀ b, v.ownBlock = some b → b < g) ∧ base ≤ g
/-- the number that is given out, and how many then have been -/
def nxt (zs : List Int) (k : Nat) (n : Int) : Int := if k < zs.length then zs.getD k 0 % n else 0
def stp (zs : List Int) (k : Nat) : Nat := if k < zs.length then k + 1 else k
theorem nxt_range (zs : List Int) (k : Nat) (n : Int) (h : 1 ≤ n) : 0 ≤ nxt zs k n ∧ nxt zs k n < n := by
  unfold nxt
  split
  · exact ⟨Int.emod_nonneg _ (by omega), Int.emod_lt_of_pos _ (by omega)⟩
  · omega
theorem stp_le (zs : List Int) (k : Nat) : stp zs k ≤ k + 1 := by unfold stp; split <;> omega
theorem dice_lt {w : World} {base g : Nat} {zs : List Int} {k : Nat} (h : Dice w base g zs k) : g < w.heap.size := by
  obtain ⟨v, hg, _⟩ := h
  exact (Array.getElem?_eq_some_iff.1 hg).1
theorem dice_base {w : World} {base g : Nat} {zs : List Int} {k : Nat} (h : Dice w base g zs k) : base ≤ g := by
  obtain ⟨v, _, _, _, hb⟩ := h
  exact hb
/-- dice stay as they are where nothing that was there has changed -/
theorem dice_on {B : Nat} {w w' : World} {base g : Nat} {zs : List Int} {k : Nat} (h : Dice w base g zs k) (hb : Below B w w') (hB : w.heap.size ≤ B) : Dice w' base g zs k := by
  have hlt := dice_lt h
  obtain ⟨v, hg, hown, hne, hbase⟩ := h
  refine ⟨v, (hb.block g (by omega)).trans hg, ?_, hne, hbase⟩
  refine hown.kept (row := none) ⟨hb.os, hb.tape, hb.output, hb.size, fun i hi _ => hb.block i (by omega)⟩ ?_
  cases v.ownBlock <;> simp
/-- dice stay as they are where a block that was made later is written -/
theorem dice_far {w w' : World} {base g x : Nat} {zs : List Int} {k : Nat} (h : Dice w base g zs k) (hg : w.grownBy w' (some x)) (hx : g < x) : Dice w' base g zs k := by
  have hlt := dice_lt h
  obtain ⟨v, hr, hown, hne, hbase⟩ := h
  refine ⟨v, (hg.block g hlt (fun e => by have := Option.some.inj e; omega)).trans hr, hown.kept hg (.inr fun e => by have := hne x e; omega), hne, hbase⟩
theorem int_info : (Try.prog.info? 3).map (fun i => (i.zero, i.size, i.bytes)) = some (some (.int .i64 0), 1, 8) := by kernel_rfl
def RollPost (w : World) (zs : List Int) (e : Ending) (w' : World) : Prop := ∃ g, e = .returned (.pointer (some ⟨g, 0, none⟩)) ∧ Dice w' w.heap.size g zs 0 ∧ Below w.heap.size w w'
theorem ints_length (zs : List Int) : (ints zs).length = zs.length := by simp [ints]
theorem ints_get {zs : List Int} {j : Nat} {u : Value} (h : (ints zs)[j]? = some u) : j < zs.length ∧ u = .int .i64 (zs.getD j 0) := by
  have hj : j < zs.length := by
    have := (List.getElem?_eq_some_iff.1 h).1
    rwa [ints_length] at this
  refine ⟨hj, ?_⟩
  simp only [ints, List.getElem?_map, List.getElem?_eq_getElem hj, Option.map_some, Option.some.injEq] at h
  rw [← h, List.getD_eq_getElem?_getD, List.getElem?_eq_getElem hj]
  rfl
theorem ints_one (zs : List Int) : ∀ u ∈ ints zs, u.oneCell' = true := by
  intro u hu
  obtain ⟨n, _, rfl⟩ := List.mem_map.1 hu
  rfl
theorem ints_news {x : Addr} {w : World} {zs : List Int} (hc : ∀ j, j < zs.length → w.cell? (x.add j) = some (.int .i64 (zs.getD j 0))) (o : Obj) : ∀ j u, (ints zs)[j]? = some u → (w.alloc o).cell? (x.add j) = some u := by
  intro j u hu
  obtain ⟨hj, rfl⟩ := ints_get hu
  have h := hc j hj
  rw [World.cell?_alloc_lt _ _ _ (World.block_lt_of_cell? w _ h)]
  exact h
theorem dice_made {w w1 : World} {zs : List Int} {g' c' : Nat} (hown : w1.ownsRow w.heap.size 3 1 (.slice (some ⟨g', 0, none⟩) zs.length c') zs.length (ints zs)) (hb : Below w.heap.size w w1) :
    Dice (w1.alloc (.cells #[.slice (some ⟨g', 0, none⟩) zs.length c', .int .i64 0] 63)) w.heap.size w1.heap.size zs 0 := by
  refine ⟨_, heap_alloc_new w1 _, hown.alloc _, ?_, hb.size⟩
  intro b hb'
  have h : g' = b := Option.some.inj (show some g' = some b from hb')
  subst h
  exact (hown.lt g' rfl).2
theorem slice_of {w : World} {base : Nat} {e : TypeId} {v : Value} {n : Nat} {xs : List Value} (h : w.ownsRow base e 1 v n xs) (hv : v ≠ .slice none 0 0) : ∃ g c, v = .slice (some ⟨g, 0, none⟩) n c := by
  rcases h.2 with ⟨h, _⟩ | ⟨g, c, _, h, _⟩
  · exact absurd h hv
  · exact ⟨g, c, h⟩
set_option maxHeartbeats 400000 in
theorem roll_some (x : Addr) (len cap : Nat) (zs : List Int) (w : World) (hc : ∀ j, j < zs.length → w.cell? (x.add j) = some (.int .i64 (zs.getD j 0))) (hz : zs.length = len) (hl : len ≤ 300) :
    Calls Try.prog 22 #[.slice (some x) len cap] w (RollPost w zs) := by
  obtain ⟨i0, hi0, hz0, hz1, hz2⟩ := info_parts int_info
  have HN := Lib.hid (ints_news hc (.cells #[] 3))
  have HM := Lib.hid (World.ownsRow_made (base := w.heap.size) (e := 3) (size := 1) w #[] 0 (Nat.le_refl _) (Nat.zero_le _) rfl)
  have HZ := Lib.hid hz
  clear hc hz
  go_enter Try.func22, Try.ntmps22
  go_wp2_with (at_builtin; refine wpList_append_own _ rfl _ _ 25 rfl w.heap.size 3 i0 (.int .i64 0) 1 8 Try.underlying25 hi0 hz0 hz1 hz2 rfl (by decide) _ 0 [] rfl HM.out x len cap (ints zs) rfl (by rw [ints_length, HZ.out, Nat.mul_one]) HN.out (ints_one zs) (by unfold maxLen; omega) (by omega) (by simp) ?_; intro v' w1 hown hgrow hiff; obtain ⟨g', c', hv'⟩ := slice_of hown (fun h => by have := (hiff.1 h).1; cases this); subst hv')
  have hb : Below w.heap.size w w1 := ((Below.refl w.heap.size w).alloc (Nat.le_refl _) _).grown hgrow (by simp) (fun k hk => Nat.le_of_eq (Option.some.inj (show some w.heap.size = some k from hk)))
  have hown2 : w1.ownsRow w.heap.size 3 1 (.slice (some ⟨g', 0, none⟩) zs.length c') zs.length (ints zs) := by
    have h := hown
    rw [Nat.zero_add, List.nil_append, ← HZ.out] at h
    obtain ⟨h1, h2⟩ := h
    refine ⟨h1, ?_⟩
    rcases h2 with ⟨h, _⟩ | ⟨g, cp, cur, h, rest⟩
    · cases h
    · cases h; exact .inr ⟨_, _, cur, rfl, rest⟩
  have hd := Lib.hid (dice_made hown2 hb)
  rw [HZ.out] at hd
  clear hown hown2 hiff hgrow
  go_ret
  exact ⟨w1.heap.size, rfl, hd.out, hb.alloc hb.size _⟩
theorem roll_none (w : World) : Calls Try.prog 22 #[.slice none 0 0] w (RollPost w []) := by
  obtain ⟨i0, hi0, hz0, hz1, hz2⟩ := info_parts int_info
  have HM := Lib.hid (World.ownsRow_made (base := w.heap.size) (e := 3) (size := 1) w #[] 0 (Nat.le_refl _) (Nat.zero_le _) rfl)
  have hd := Lib.hid (dice_made (w := w) (zs := []) HM.out ((Below.refl w.heap.size w).alloc (Nat.le_refl _) _))
  go_enter Try.func22, Try.ntmps22
  go_wp2_with (at_builtin; refine wpList_append_own_none rfl _ _ 25 rfl w.heap.size 3 i0 1 Try.underlying25 hi0 _ 0 [] rfl HM.out rfl ?_)
  go_ret
  exact ⟨_, rfl, (by have h := hd.out; rw [World.size_alloc] at h; exact h), (((Below.refl w.heap.size w).alloc (Nat.le_refl _) _)).alloc (by simp) _⟩
/-- Roll, for any list of at most 300 numbers -/
theorem roll_any (a : Option Addr) (len cap : Nat) (z : List Int) (w : World) (hrow : IsRow .i64 w a len cap z) (hl : len ≤ 300) :
    Calls Try.prog 22 #[.slice a len cap] w (RollPost w (z.take len)) := by
  rcases hrow with ⟨rfl, rfl, rfl, rfl⟩ | ⟨x, rfl, h1, h2, h3, h4, h5⟩
  · exact roll_none w
  · have hz : (z.take len).length = len := by rw [List.length_take]; omega
    refine roll_some x len cap (z.take len) w (fun j hj => ?_) hz hl
    rw [h4 j (by omega)]
    rw [List.getD_eq_getElem?_getD, List.getD_eq_getElem?_getD, List.getElem?_take, if_pos (by omega)]
end Go.Proofs.Ytlplomofgbmgaaa

/- The walk of the maker's Next, for any dice. -/
namespace Go.Proofs.Ytlplomofgbmgaaa
open Go.RowKit Plan

/-- behind Next: the number, the dice one further, nothing else changed -/
def NextPost (w : World) (base g : Nat) (zs : List Int) (k : Nat) (n : Int) (e : Ending) (w' : World) : Prop :=
  e = .returned (.int .i64 (nxt zs k n)) ∧ Dice w' base g zs (stp zs k) ∧ w.grownBy w' (some g) ∧ w'.heap.size = w.heap.size
theorem dice_drew {w : World} {base g : Nat} {zs : List Int} {k : Nat} (h : Dice w base g zs k) : Dice w.drew base g zs k := dice_on h (Below.refl _ _).drew (Nat.le_refl _)
theorem grownBy_drew (w : World) (r : Option Nat) : w.grownBy w.drew r := ⟨rfl, rfl, rfl, Nat.le_refl _, fun _ _ _ => rfl⟩
set_option maxHeartbeats 400000 in
theorem next_end (w : World) (base g : Nat) (zs : List Int) (k : Nat) (n : Int) (hd : Dice w base g zs k) (hk : zs.length ≤ k) :
    Calls Try.prog 23 #[.pointer (some ⟨g, 0, none⟩), .int .i64 n] w (NextPost w base g zs k n) := by
  have hd2 := dice_drew hd
  obtain ⟨v, hg, hown, hne, hb⟩ := hd
  have c0 := cell_of_row _ _ 0 _ _ _ hg
  have c1 := cell_of_row _ _ 1 _ _ _ hg
  simp only [List.getElem?_toArray, List.getElem?_cons_zero, List.getElem?_cons_succ] at c0 c1
  have hle : decide ((zs.length : Int) ≤ (k : Int)) = true := by simp; omega
  have hv : v = .slice none 0 0 ∧ zs.length = 0 ∨ ∃ b c, v = .slice (some ⟨b, 0, none⟩) zs.length c := by
    rcases hown.2 with h | ⟨b, c, _, h, _⟩
    · exact .inl h
    · exact .inr ⟨b, c, h⟩
  have hx : nxt zs k n = 0 := if_neg (by omega)
  have hs : stp zs k = k := if_neg (by omega)
  have HX := Lib.hid hx
  have HS := Lib.hid hs
  have HD := Lib.hid hd2
  clear hx hs hd2 hg hown
  rcases hv with ⟨rfl, h0⟩ | ⟨b, c, rfl⟩
  · rw [h0] at hle
    clear h0
    go_enter Try.func23, Try.ntmps23
    go_wp2_with fail
    refine Plan.start (fun w' => w' = w.drew) [(0, true), (1, true), (2, true), (3, true), (4, true), (5, true), (6, true), (7, true), (8, true), (9, true)] (by kernel_rfl) (by kernel_rfl) (by kernel_rfl) (by kernel_rfl) rfl ?_
    simp only [List.map_cons, List.map_nil, List.getElem?_toArray, List.getElem?_cons_zero, List.getElem?_cons_succ]
    repeat (first | (refine Plan.take ?_ (by rfl) ?_ ?_; rotate_left; (· rintro w9 rfl; go_simp; (try rw [if_neg (by omega)]); all_goals (with_reducible rfl)); simp only [Act.put, List.setIfInBounds_toArray, List.set_cons_zero, List.set_cons_succ]) | (refine Plan.pass (by rfl) ?_; simp only [Act.put, List.setIfInBounds_toArray, List.set_cons_zero, List.set_cons_succ]))
    refine Plan.ends ?_
    go_wp2
    go_ret
    exact ⟨ret_i64 HX.out.symm, by rw [HS.out]; exact HD.out, grownBy_drew _ _, rfl⟩
  · go_enter Try.func23, Try.ntmps23
    go_wp2_with fail
    refine Plan.start (fun w' => w' = w.drew) [(0, true), (1, true), (2, true), (3, true), (4, true), (5, true), (6, true), (7, true), (8, true), (9, true)] (by kernel_rfl) (by kernel_rfl) (by kernel_rfl) (by kernel_rfl) rfl ?_
    simp only [List.map_cons, List.map_nil, List.getElem?_toArray, List.getElem?_cons_zero, List.getElem?_cons_succ]
    repeat (first | (refine Plan.take ?_ (by rfl) ?_ ?_; rotate_left; (· rintro w9 rfl; go_simp; (try rw [if_neg (by omega)]); all_goals (with_reducible rfl)); simp only [Act.put, List.setIfInBounds_toArray, List.set_cons_zero, List.set_cons_succ]) | (refine Plan.pass (by rfl) ?_; simp only [Act.put, List.setIfInBounds_toArray, List.set_cons_zero, List.set_cons_succ]))
    refine Plan.ends ?_
    go_wp2
    go_ret
    exact ⟨ret_i64 HX.out.symm, by rw [HS.out]; exact HD.out, grownBy_drew _ _, rfl⟩
theorem dice_step {w : World} {base g : Nat} {zs : List Int} {k : Nat} (h : Dice w base g zs k) (j : Nat) : Dice (w.setCell ⟨g, 1, none⟩ (.int .i64 j)) base g zs j := by
  obtain ⟨v, hg, hown, hne, hb⟩ := h
  refine ⟨v, ?_, hown.kept (row := some g) ⟨rfl, rfl, rfl, Nat.le_of_eq (by simp [World.setCell]), fun i _ hne => Below.heap_setCell w ⟨g, 1, none⟩ _ i (fun e => hne (by rw [e]))⟩ (.inr fun e => Nat.lt_irrefl _ (hne g e)), hne, hb⟩
  rw [setCell_eq_setRow w g 1 _ _ _ _ hg]
  exact setRow_heap w g _ _ _ _ hg
theorem grownBy_step (w : World) (g : Nat) (x : Value) : w.grownBy (w.setCell ⟨g, 1, none⟩ x) (some g) :=
  ⟨rfl, rfl, rfl, Nat.le_of_eq (by simp [World.setCell]), fun i _ hne => Below.heap_setCell w ⟨g, 1, none⟩ _ i (fun e => hne (by rw [e]))⟩
theorem grownBy_trans {a b c : World} {r : Option Nat} (h : a.grownBy b r) (h2 : b.grownBy c r) : a.grownBy c r :=
  ⟨h2.os.trans h.os, h2.tape.trans h.tape, h2.output.trans h.output, Nat.le_trans h.size h2.size, fun k hk hr => (h2.block k (Nat.lt_of_lt_of_le hk h.size) hr).trans (h.block k hk hr)⟩
set_option maxHeartbeats 1000000 in
theorem next_more (w : World) (base g : Nat) (zs : List Int) (k : Nat) (n : Int) (hd : Dice w base g zs k) (hk : k < zs.length) (hl : zs.length ≤ 100000) (hn1 : 1 ≤ n) (hn2 : n ≤ 4611686018427387904) :
    Calls Try.prog 23 #[.pointer (some ⟨g, 0, none⟩), .int .i64 n] w (NextPost w base g zs k n) := by
  have hstep := dice_step (dice_drew hd) (k + 1)
  obtain ⟨v, hg, hown, hne, hb⟩ := hd
  have c0 := cell_of_row _ _ 0 _ _ _ hg
  have c1 := cell_of_row _ _ 1 _ _ _ hg
  simp only [List.getElem?_toArray, List.getElem?_cons_zero, List.getElem?_cons_succ] at c0 c1
  have f1 : w.frozen? ⟨g, 1, none⟩ = false := by simp [World.frozen?, hg]
  have hle : decide ((zs.length : Int) ≤ (k : Int)) = false := by simp; omega
  have hv : ∃ b c, v = .slice (some ⟨b, 0, none⟩) zs.length c := by
    rcases hown.2 with ⟨_, h⟩ | ⟨b, c, _, h, _⟩
    · omega
    · exact ⟨b, c, h⟩
  obtain ⟨b, c, rfl⟩ := hv
  have hbg : b ≠ g := Nat.ne_of_lt (hne b rfl)
  have ck := hown.cells (g := b) rfl k (.int .i64 (zs.getD k 0)) (by
    simp only [ints, List.getElem?_map, List.getElem?_eq_getElem hk, Option.map_some]
    rw [List.getD_eq_getElem?_getD, List.getElem?_eq_getElem hk]
    rfl)
  have hadd : (⟨b, 0, none⟩ : Addr).add k = ⟨b, k, none⟩ := by unfold Addr.add; split <;> simp_all
  rw [hadd] at ck
  have hm : ∀ w, Calls Try.prog 16 #[.int .i64 (zs.getD k 0), .int .i64 n] w fun e w' => e = .returned (.int .i64 (zs.getD k 0 % n)) ∧ w = w' := fun w => mod_any _ n hn1 hn2 w
  have hx : nxt zs k n = zs.getD k 0 % n := if_pos hk
  have hs : stp zs k = k + 1 := if_pos hk
  have hwk : IntKind.i64.wrap (k : Int) = (k : Int) := IntWalk.i64_in _ (by omega)
  have k0 : (0 : Int) ≤ (k : Int) := by omega
  have k1 : (k : Int) < (zs.length : Int) := by omega
  have HX := Lib.hid hx
  have HS := Lib.hid hs
  have HD := Lib.hid hstep
  have HM := Lib.hid hm
  clear hx hs hstep hm hg hown hadd hne hk
  generalize zs.getD k 0 = z at *
  generalize zs.length = L at *
  go_enter Try.func23, Try.ntmps23
  go_wp2_with fail
  refine Plan.start (fun w' => w' = w.drew) [(0, true), (1, true), (2, true), (3, true), (4, true), (5, true), (6, true), (7, true), (8, true), (9, true)] (by kernel_rfl) (by kernel_rfl) (by kernel_rfl) (by kernel_rfl) rfl ?_
  simp only [List.map_cons, List.map_nil, List.getElem?_toArray, List.getElem?_cons_zero, List.getElem?_cons_succ]
  repeat (first | (refine Plan.take ?_ (by rfl) ?_ ?_; rotate_left; (· rintro w9 rfl; go_simp; (try rw [if_neg (by omega)]); all_goals (with_reducible rfl)); simp only [Act.put, List.setIfInBounds_toArray, List.set_cons_zero, List.set_cons_succ]) | (refine Plan.pass (by rfl) ?_; simp only [Act.put, List.setIfInBounds_toArray, List.set_cons_zero, List.set_cons_succ]))
  refine Plan.ends ?_
  go_wp2_with fail
  have d0 : (w.setCell ⟨g, 1, none⟩ (.int .i64 ((k : Int) + 1))).drew.cell? ⟨g, 0, none⟩ = some (.slice (some ⟨b, 0, none⟩) L c) := (World.cell?_setCell_other _ _ _ _ (by simp)).trans c0
  have d1 : (w.setCell ⟨g, 1, none⟩ (.int .i64 ((k : Int) + 1))).drew.cell? ⟨g, 1, none⟩ = some (.int .i64 ((k : Int) + 1)) := World.cell?_setCell_same _ _ _ c1
  have dk : (w.setCell ⟨g, 1, none⟩ (.int .i64 ((k : Int) + 1))).drew.cell? ⟨b, k, none⟩ = some (.int .i64 z) := (World.cell?_setCell_other _ _ _ _ (by intro h; cases h; exact hbg rfl)).trans ck
  have e1 : w.grownBy (w.setCell ⟨g, 1, none⟩ (.int .i64 ((k : Int) + 1))).drew (some g) := grownBy_trans (grownBy_step w g _) (grownBy_drew _ _)
  have e2 : (w.setCell ⟨g, 1, none⟩ (.int .i64 ((k : Int) + 1))).drew.heap.size = w.heap.size := by simp [World.setCell, World.drew]
  have e3 : Dice (w.setCell ⟨g, 1, none⟩ (.int .i64 ((k : Int) + 1))).drew base g zs (k + 1) := by
    have h := HD.out
    rw [show ((k + 1 : Nat) : Int) = (k : Int) + 1 by omega] at h
    exact h
  generalize (w.setCell ⟨g, 1, none⟩ (.int .i64 ((k : Int) + 1))).drew = W at d0 d1 dk e1 e2 e3 ⊢
  have E3 := Lib.hid e3
  have E2 := Lib.hid e2
  clear e2 e3 c0 c1 ck HD
  refine Plan.start (fun w' => w' = W.drew) [(0, true), (1, true), (2, true), (3, true), (4, true), (5, true), (6, true), (7, true), (8, true), (9, true), (10, true), (11, true), (12, false), (13, true)] (by kernel_rfl) (by kernel_rfl) (by kernel_rfl) (by kernel_rfl) rfl ?_
  simp only [List.map_cons, List.map_nil, List.getElem?_toArray, List.getElem?_cons_zero, List.getElem?_cons_succ]
  repeat (first | (refine Plan.take ?_ (by rfl) ?_ ?_; rotate_left; (· rintro w9 rfl; go_simp; (try rw [if_neg (by omega)]); all_goals (with_reducible rfl)); simp only [Act.put, List.setIfInBounds_toArray, List.set_cons_zero, List.set_cons_succ]) | (refine Plan.pass (by rfl) ?_; simp only [Act.put, List.setIfInBounds_toArray, List.set_cons_zero, List.set_cons_succ]))
  refine Plan.call (by rfl) 16 _ ?_ (HM.out _) ?_
  · go_simp
  rintro e w1 ⟨rfl, rfl⟩
  refine ⟨_, rfl, rfl, ?_⟩
  simp only [Act.put, List.setIfInBounds_toArray, List.set_cons_zero, List.set_cons_succ]
  repeat (first | (refine Plan.take ?_ (by rfl) ?_ ?_; rotate_left; (· rintro w9 rfl; go_simp; (try rw [if_neg (by omega)]); all_goals (with_reducible rfl)); simp only [Act.put, List.setIfInBounds_toArray, List.set_cons_zero, List.set_cons_succ]) | (refine Plan.pass (by rfl) ?_; simp only [Act.put, List.setIfInBounds_toArray, List.set_cons_zero, List.set_cons_succ]))
  refine Plan.ends ?_
  go_wp2
  go_ret
  exact ⟨ret_i64 HX.out.symm, by rw [HS.out]; exact dice_drew E3.out, grownBy_trans e1 (grownBy_drew _ _), E2.out⟩
/-- Next, for any dice of at most 100000 numbers -/
theorem next_any (w : World) (base g : Nat) (zs : List Int) (k : Nat) (n : Int) (hd : Dice w base g zs k) (hl : zs.length ≤ 100000) (hn1 : 1 ≤ n) (hn2 : n ≤ 4611686018427387904) :
    Calls Try.prog 23 #[.pointer (some ⟨g, 0, none⟩), .int .i64 n] w (NextPost w base g zs k n) := by
  by_cases hk : k < zs.length
  · exact next_more w base g zs k n hd hk hl hn1 hn2
  · exact next_end w base g zs k n hd (by omega)
end Go.Proofs.Ytlplomofgbmgaaa

/- The walks of Pad: the program's, by the library's Repeat and Join, and the document's own, for any bytes and a length of at most 2^31 - 1. -/
namespace Go.Proofs.Ytlplomofgbmgaaa
open Go.RowKit

/-- bytes 0 behind l, n bytes in all -/
def padL (l : List UInt8) (n : Nat) : List UInt8 := l ++ List.replicate (n - l.length) 0
theorem size_list (s : ByteArray) : s.data.toList.length = s.size := by simp
theorem padL_same (s : ByteArray) (n : Nat) (h : n ≤ s.size) : (⟨(padL s.data.toList n).toArray⟩ : ByteArray) = s := by
  rw [padL, size_list, Nat.sub_eq_zero_of_le h]; simp
theorem zeros_size (c : Nat) : (⟨(List.replicate c (0 : UInt8)).toArray⟩ : ByteArray).size = c := by
  show (List.replicate c (0 : UInt8)).toArray.size = c
  simp
theorem refPad_more (s : ByteArray) (n : Nat) (w : World) (hs : s.size < n) (hn : n ≤ 2147483647) :
    Calls Try.prog 57 #[.string s, .int .i64 n] w fun e w' => e = .returned (.string ⟨(padL s.data.toList n).toArray⟩) ∧ Below w.heap.size w w' := by
  have hmk : ∀ w, (Instr.makeSlice 42 (.int .i64 ((n : Int) - s.size)) (.int .i64 ((n : Int) - s.size))).run Try.prog w = .ok (.slice (some ⟨w.heap.size, 0, none⟩) (n - s.size) (n - s.size)) (w.alloc (.cells (madeCells #[.int .u8 0] (n - s.size)) 5)) := fun w => by
    have e : ((n : Int) - s.size) = ((n - s.size : Nat) : Int) := by omega
    rw [e]
    exact run_make_row' (P := Try.prog) 42 5 (.int .u8 0) 1 Try.underlying42 info_byte rfl .i64 .i64 (n - s.size) (by omega) (by omega) w
  have hcv : ∀ w : World, (convert 42 9 (.slice (some ⟨w.heap.size, 0, none⟩) (n - s.size) (n - s.size))).run Try.prog (w.alloc (.cells (madeCells #[.int .u8 0] (n - s.size)) 5)) = .ok (.string ⟨(List.replicate (n - s.size) (0 : UInt8)).toArray⟩) (w.alloc (.cells (madeCells #[.int .u8 0] (n - s.size)) 5)) := fun w => by
    have h1 := run_convert_bytes_back (P := Try.prog) (w.alloc (.cells (madeCells #[.int .u8 0] (n - s.size)) 5)) 42 9 5 ⟨w.heap.size, 0, none⟩ (n - s.size) (List.replicate (n - s.size) 0) Try.underlying42 Try.underlying5 Try.underlying9 (fun j hj => by
      have hj' : j < n - s.size := by simpa using hj
      have e : (⟨w.heap.size, 0, none⟩ : Addr).add j = ⟨w.heap.size, j, none⟩ := by unfold Addr.add; split <;> simp_all
      rw [e, (World.rowIs_made w (.int .u8 0) (n - s.size) 5).cell hj']
      simp)
    rwa [List.length_replicate] at h1
  have he : (⟨(padL s.data.toList n).toArray⟩ : ByteArray) = s ++ (⟨(List.replicate (n - s.size) (0 : UInt8)).toArray⟩ : ByteArray) := by
    rw [padL, size_list]
    apply ByteArray.ext
    simp
  rw [he]
  clear he
  have hz := zeros_size (n - s.size)
  generalize (⟨(List.replicate (n - s.size) (0 : UInt8)).toArray⟩ : ByteArray) = Z at hcv hz ⊢
  have hsum : s.size + Z.size ≤ 9223372036854775807 := by omega
  clear hz
  go_enter Try.func57, Try.ntmps57
  go_wp2
  go_ret
  exact ⟨rfl, (Below.refl _ _).alloc (Nat.le_refl _) _⟩
theorem refPad_same (s : ByteArray) (n : Nat) (w : World) (h : n ≤ s.size) :
    Calls Try.prog 57 #[.string s, .int .i64 n] w fun e w' => e = .returned (.string s) ∧ Below w.heap.size w w' := by
  go_enter Try.func57, Try.ntmps57
  go_wp2
  go_ret
  exact ⟨rfl, Below.refl _ _⟩
theorem refPad_any (s : ByteArray) (n : Nat) (w : World) (hn : n ≤ 2147483647) :
    Calls Try.prog 57 #[.string s, .int .i64 n] w fun e w' => e = .returned (.string ⟨(padL s.data.toList n).toArray⟩) ∧ Below w.heap.size w w' := by
  by_cases h : n ≤ s.size
  · rw [padL_same s n h]; exact refPad_same s n w h
  · exact refPad_more s n w (by omega) hn
end Go.Proofs.Ytlplomofgbmgaaa

/- The walks of the small functions of the record: within, mayHold, put, get, number, at, and both Checks, for any record. -/
namespace Go.Proofs.Ytlplomofgbmgaaa
open Go.RowKit

def wit (n g : Int) : Bool := decide (0 ≤ n) && decide (n ≤ g)
def hold (k l : Int) : Bool := if k = 1 then (l == 16) else if k = 2 then (l == 0) else decide (l ≤ 20)

theorem ret_bool {x y : Bool} (h : x = y) : Ending.returned (.bool x) = .returned (.bool y) := by rw [h]
theorem number_any (n size : Int) (w : World) :
    Calls Try.prog 56 #[.int .i64 n, .int .i64 size] w fun e w' => e = .returned (.string ⟨(CodecMath.putL n size).toArray⟩) ∧ Below w.heap.size w w' := by
  have h := refPut_any n size
  generalize (⟨(CodecMath.putL n size).toArray⟩ : ByteArray) = X at h ⊢
  generalize CodecMath.putE n size = E at h
  have H := Lib.hid h
  clear h
  go_enter Try.func56, Try.ntmps56
  go_wp2_with (go_at_call 63; ((with_reducible refine (H.out _).mono ?_); rintro e w1 ⟨rfl, hb1⟩))
  go_ret
  exact ⟨rfl, hb1⟩
/-- a record's fields, as the model has them -/
def mk (k b v m : Int) (p : ByteArray) : RecMath.Rec := ⟨k, b, v, m, p.data.toList⟩
theorem mk_len (k b v m : Int) (p : ByteArray) : (mk k b v m p).payload.length = p.size := size_list p
theorem ret_i {a b : Int} (h : a = b) : Ending.returned (.int .i64 a) = .returned (.int .i64 b) := by rw [h]
theorem check_eq (k b v m : Int) (p : ByteArray) : RecMath.checkE (mk k b v m p) =
    if k < 1 ∨ 6 < k then 3
    else if b < 0 ∨ 4294967295 < b ∨ v < 0 ∨ 1099511627776 < v ∨ m < 0 ∨ 255 < m then 1
    else if 20 < p.size ∨ (k = 1 ∧ p.size ≠ 16) ∨ (k = 2 ∧ p.size ≠ 0) then 2
    else 0 := by
  have h : RecMath.checkE (mk k b v m p) =
    if k < 1 ∨ 6 < k then 3
    else if b < 0 ∨ 4294967295 < b ∨ v < 0 ∨ 1099511627776 < v ∨ m < 0 ∨ 255 < m then 1
    else if 20 < p.data.toList.length ∨ (k = 1 ∧ p.data.toList.length ≠ 16) ∨ (k = 2 ∧ p.data.toList.length ≠ 0) then 2
    else 0 := rfl
  rw [h]
  simp only [size_list]
theorem check_form {k b v m : Int} {p : ByteArray} (h : k < 1 ∨ 6 < k) : RecMath.checkE (mk k b v m p) = 3 := by rw [check_eq, if_pos h]
theorem check_range {k b v m : Int} {p : ByteArray} (h : 1 ≤ k) (h6 : k ≤ 6) (h2 : (wit b 4294967295 && wit v 1099511627776 && wit m 255) = false) : RecMath.checkE (mk k b v m p) = 1 := by
  rw [check_eq, if_neg (by omega), if_pos]
  simp [wit] at h2
  omega
theorem check_size {k b v m : Int} {p : ByteArray} (h : 1 ≤ k) (h6 : k ≤ 6) (hb : wit b 4294967295 = true) (hv : wit v 1099511627776 = true) (hm : wit m 255 = true) :
    RecMath.checkE (mk k b v m p) = if hold k (p.size : Int) = true then 0 else 2 := by
  simp only [wit, Bool.and_eq_true, decide_eq_true_eq] at hb hv hm
  rw [check_eq, if_neg (by omega), if_neg (by omega)]
  unfold hold
  by_cases h1 : k = 1
  · subst h1
    rw [if_pos rfl]
    by_cases hp : p.size = 16
    · rw [if_neg (by omega), if_pos (by simp; omega)]
    · rw [if_pos (by omega), if_neg (by simp; omega)]
  · rw [if_neg h1]
    by_cases h2 : k = 2
    · subst h2
      rw [if_pos rfl]
      by_cases hp : p.size = 0
      · rw [if_neg (by omega), if_pos (by rw [hp]; rfl)]
      · rw [if_pos (by omega), if_neg (by intro hh; have := eq_of_beq hh; omega)]
    · rw [if_neg h2]
      by_cases hp : p.size ≤ 20
      · rw [if_neg (by omega), if_pos (by simp; omega)]
      · rw [if_pos (by omega), if_neg (by simp; omega)]

theorem bnot_false : Value.bool (!false) = .bool true := rfl
set_option maxHeartbeats 400000 in
theorem refCheck_any (k b v m : Int) (p : ByteArray) (w : World) :
    Calls Try.prog 55 #[.agg #[.int .i64 k, .int .i64 b, .int .i64 v, .int .i64 m, .string p]] w fun e w' => e = .returned (.int .i64 (RecMath.checkE (mk k b v m p))) ∧ Below w.heap.size w w' := by
  have E := check_eq k b v m p
  generalize RecMath.checkE (mk k b v m p) = X at E ⊢
  by_cases h1 : k < 1
  · rw [if_pos (by omega)] at E; have HE := Lib.hid E; clear E
    go_enter Try.func55, Try.ntmps55
    go_wp2
    go_ret
    exact ⟨ret_i HE.out.symm, (Below.refl _ _).alloc (Nat.le_refl _) _⟩
  have h1' : 1 ≤ k := by omega
  by_cases h2 : 6 < k
  · rw [if_pos (by omega)] at E; have HE := Lib.hid E; clear E h1
    go_enter Try.func55, Try.ntmps55
    go_wp2
    go_ret
    exact ⟨ret_i HE.out.symm, (Below.refl _ _).alloc (Nat.le_refl _) _⟩
  have d2 : decide (6 < k) = false := by simpa using h2
  rw [if_neg (by omega)] at E
  clear h1 h2
  by_cases h3 : b < 0
  · rw [if_pos (by omega)] at E; have HE := Lib.hid E; clear E
    go_enter Try.func55, Try.ntmps55
    go_wp2
    go_ret
    exact ⟨ret_i HE.out.symm, (Below.refl _ _).alloc (Nat.le_refl _) _⟩
  have d3 : decide (b < 0) = false := by simpa using h3
  have h3' : 0 ≤ b := by omega
  by_cases h4 : 4294967295 < b
  · rw [if_pos (by omega)] at E; have HE := Lib.hid E; clear E h3
    go_enter Try.func55, Try.ntmps55
    go_wp2
    go_ret
    exact ⟨ret_i HE.out.symm, (Below.refl _ _).alloc (Nat.le_refl _) _⟩
  have d4 : decide (4294967295 < b) = false := by simpa using h4
  by_cases h5 : v < 0
  · rw [if_pos (by omega)] at E; have HE := Lib.hid E; clear E h3 h4
    go_enter Try.func55, Try.ntmps55
    go_wp2
    go_ret
    exact ⟨ret_i HE.out.symm, (Below.refl _ _).alloc (Nat.le_refl _) _⟩
  have d5 : decide (v < 0) = false := by simpa using h5
  have h5' : 0 ≤ v := by omega
  by_cases h6 : 1099511627776 < v
  · rw [if_pos (by omega)] at E; have HE := Lib.hid E; clear E h3 h4 h5
    go_enter Try.func55, Try.ntmps55
    go_wp2
    go_ret
    exact ⟨ret_i HE.out.symm, (Below.refl _ _).alloc (Nat.le_refl _) _⟩
  have d6 : decide (1099511627776 < v) = false := by simpa using h6
  by_cases h7 : m < 0
  · rw [if_pos (by omega)] at E; have HE := Lib.hid E; clear E h3 h4 h5 h6
    go_enter Try.func55, Try.ntmps55
    go_wp2
    go_ret
    exact ⟨ret_i HE.out.symm, (Below.refl _ _).alloc (Nat.le_refl _) _⟩
  have d7 : decide (m < 0) = false := by simpa using h7
  have h7' : 0 ≤ m := by omega
  by_cases h8 : 255 < m
  · rw [if_pos (by omega)] at E; have HE := Lib.hid E; clear E h3 h4 h5 h6 h7
    go_enter Try.func55, Try.ntmps55
    go_wp2
    go_ret
    exact ⟨ret_i HE.out.symm, (Below.refl _ _).alloc (Nat.le_refl _) _⟩
  have d8 : decide (255 < m) = false := by simpa using h8
  rw [if_neg (by omega)] at E
  clear h3 h4 h5 h6 h7 h8
  by_cases h9 : 20 < p.size
  · rw [if_pos (by omega)] at E; have HE := Lib.hid E; clear E
    have d9 : (20 : Int) < (p.size : Int) := by omega
    go_enter Try.func55, Try.ntmps55
    go_wp2
    go_ret
    exact ⟨ret_i HE.out.symm, (Below.refl _ _).alloc (Nat.le_refl _) _⟩
  have d9 : decide ((20 : Int) < (p.size : Int)) = false := by simp; omega
  by_cases h10 : k = 1
  · subst h10
    by_cases h11 : p.size = 16
    · rw [if_neg (by omega)] at E; have HE := Lib.hid E; clear E h9
      have d11 : ((p.size : Int) != 16) = false := by rw [h11]; rfl
      clear h11
      go_enter Try.func55, Try.ntmps55
      go_wp2
      go_ret
      exact ⟨ret_i HE.out.symm, (Below.refl _ _).alloc (Nat.le_refl _) _⟩
    · rw [if_pos (by omega)] at E; have HE := Lib.hid E; clear E h9
      have d11 : ((p.size : Int) != 16) = true := by simp; omega
      clear h11
      go_enter Try.func55, Try.ntmps55
      go_wp2
      go_ret
      exact ⟨ret_i HE.out.symm, (Below.refl _ _).alloc (Nat.le_refl _) _⟩
  · have d10 : (k == 1) = false := by simpa using h10
    by_cases h12 : k = 2
    · subst h12
      by_cases h13 : p.size = 0
      · have hpe : p = ⟨#[]⟩ := ByteArray.ext (Array.eq_empty_of_size_eq_zero h13)
        rw [if_neg (by omega)] at E; have HE := Lib.hid E; clear E h9 h10 h13
        subst hpe
        go_enter Try.func55, Try.ntmps55
        go_wp2
        go_ret
        exact ⟨ret_i HE.out.symm, (Below.refl _ _).alloc (Nat.le_refl _) _⟩
      · have hpe : p.toList.isEmpty = false := by
          rw [ByteArray.toList_eq]
          cases hq : p.data.toList with
          | nil => exfalso; apply h13; rw [← size_list, hq]; rfl
          | cons => rfl
        rw [if_pos (by omega)] at E; have HE := Lib.hid E; clear E h9 h10 h13
        go_enter Try.func55, Try.ntmps55
        go_wp2
        go_ret
        exact ⟨ret_i HE.out.symm, (Below.refl _ _).alloc (Nat.le_refl _) _⟩
    · have d12 : (k == 2) = false := by simpa using h12
      rw [if_neg (by omega)] at E; have HE := Lib.hid E; clear E h9 h10 h12
      go_enter Try.func55, Try.ntmps55
      go_wp2
      go_ret
      exact ⟨ret_i HE.out.symm, (Below.refl _ _).alloc (Nat.le_refl _) _⟩

end Go.Proofs.Ytlplomofgbmgaaa

/- The walks of the encoder: seal, imageOf, sector, Encode, and the document's own, for any record. -/
namespace Go.Proofs.Ytlplomofgbmgaaa
open Go.RowKit Plan

/-- the world behind a record's box -/
abbrev boxW (w : World) (k b v m : Int) (p : ByteArray) : World := w.alloc (.cells #[.int .i64 k, .int .i64 b, .int .i64 v, .int .i64 m, .string p] 69)
theorem flat_join (xs : List (List UInt8)) : Lib.join xs [] = xs.flatten := by
  cases xs with
  | nil => rfl
  | cons x r => rw [Lib.join_cons]; simp [Lib.joinTail]
theorem seal_bytes (L : List UInt8) : (⟨L.toArray⟩ : ByteArray) ++ (⟨(CodecMath.bytes (CrcMath.crc 0 L) 4).toArray⟩ : ByteArray) = ⟨(RecMath.sealL L).toArray⟩ := by
  apply ByteArray.ext
  simp [RecMath.sealL]
theorem size_bytes (L : List UInt8) : (⟨L.toArray⟩ : ByteArray).size = L.length := by
  show L.toArray.size = L.length
  simp
theorem put_crc (L : List UInt8) : CodecMath.putL (CrcMath.crc 0 L : Nat) 4 = CodecMath.bytes (CrcMath.crc 0 L) 4 := by
  have h := CrcMath.crc_lt 0 L
  rw [CodecMath.putL_ok]
  · rfl
  · simp [CodecMath.okPut]; omega
/-- the bytes of a sector ahead of its checksum, in its parts -/
def parts (mk : List UInt8) (len spare : Int) (pad : List UInt8) (k b v m : Int) (p : List UInt8) : List UInt8 :=
  mk ++ (CodecMath.putL k 1 ++ (CodecMath.putL len 1 ++ (CodecMath.putL b 4 ++ (CodecMath.putL v 6 ++ (CodecMath.putL m 1 ++ (CodecMath.putL spare 1 ++ (p ++ pad)))))))
theorem putL_len (n size : Int) (h : size.toNat ≤ 7) : (CodecMath.putL n size).length ≤ 7 := by
  unfold CodecMath.putL
  split
  · rw [CodecMath.bytes_length]; exact h
  · simp
theorem toList_mk (l : List UInt8) : (⟨l.toArray⟩ : ByteArray).data.toList = l := by simp
theorem putL_fit (n : Int) (k : Nat) (h1 : 1 ≤ k) (h7 : k ≤ 7) (h0 : 0 ≤ n) (hn : n < ((256 ^ k : Nat) : Int)) : CodecMath.putL n k = CodecMath.bytes n.toNat k := by
  rw [CodecMath.putL_ok]
  · rfl
  · simp only [CodecMath.okPut, Bool.and_eq_true, decide_eq_true_eq, Int.toNat_natCast]
    omega
theorem body_parts {k b v m : Int} {p : ByteArray} (h : RecMath.checkE (mk k b v m p) = 0) :
    parts [90, 65] p.size 0 (List.replicate (20 - p.size) 0) k b v m p.data.toList = RecMath.body (mk k b v m p) := by
  obtain ⟨h1, h2, h3, h4, h5, h6, h7, h8, h9, -, -⟩ := RecMath.check_ok h
  rw [mk_len] at h9
  simp only [mk] at h1 h2 h3 h4 h5 h6 h7 h8
  have e1 := putL_fit k 1 (by decide) (by decide) (by omega) (by simp; omega)
  have e2 := putL_fit p.size 1 (by decide) (by decide) (by omega) (by simp; omega)
  have e3 := putL_fit b 4 (by decide) (by decide) (by omega) (by simp; omega)
  have e4 := putL_fit v 6 (by decide) (by decide) (by omega) (by simp; omega)
  have e5 := putL_fit m 1 (by decide) (by decide) (by omega) (by simp; omega)
  have e6 : CodecMath.putL 0 1 = [0] := by decide
  simp only [Int.cast_ofNat_Int] at e1 e2 e3 e4 e5
  unfold parts RecMath.body RecMath.pad
  rw [e1, e2, e3, e4, e5, e6, mk_len]
  simp only [mk, List.append_assoc, Int.toNat_natCast]
end Go.Proofs.Ytlplomofgbmgaaa

/- The walks of the document's own encoder: Seal, Encode, for any record. -/
namespace Go.Proofs.Ytlplomofgbmgaaa
open Go.RowKit Plan

theorem refSeal_any (s : ByteArray) (w : World) (h : s.size ≤ 1000000) :
    Calls Try.prog 58 #[.string s] w fun e w' => e = .returned (.string ⟨(RecMath.sealL s.data.toList).toArray⟩) ∧ Below w.heap.size w w' := by
  have hs := fun w => refsum_any s (by unfold maxLen; omega) w
  have hp := number_any (CrcMath.crc 0 s.data.toList : Nat) 4
  rw [put_crc] at hp
  have hb := seal_bytes s.data.toList
  have hsz2 := size_bytes (CodecMath.bytes (CrcMath.crc 0 s.data.toList) 4)
  rw [CodecMath.bytes_length] at hsz2
  have hcl := CrcMath.crc_lt 0 s.data.toList
  rw [show (⟨s.data.toList.toArray⟩ : ByteArray) = s by simp] at hb
  generalize (⟨(RecMath.sealL s.data.toList).toArray⟩ : ByteArray) = SS at hb ⊢
  generalize (⟨(CodecMath.bytes (CrcMath.crc 0 s.data.toList) 4).toArray⟩ : ByteArray) = CC at *
  generalize CrcMath.crc 0 s.data.toList = C at *
  have hsum : s.size + CC.size ≤ 9223372036854775807 := by omega
  have HS := Lib.hid hs
  have HP := Lib.hid hp
  have HB := Lib.hid hb
  clear hs hp hb hsz2
  go_enter Try.func58, Try.ntmps58
  go_wp2_with (first
    | (go_at_call 64; ((with_reducible refine (HS.out _).mono ?_); rintro e w2 ⟨rfl, rfl⟩))
    | (go_at_call 56; ((with_reducible refine (HP.out _).mono ?_); rintro e w3 ⟨rfl, hb3⟩)))
  go_ret
  exact ⟨by rw [HB.out]; rfl, hb3⟩

theorem chain_bytes (l1 l2 l3 l4 l5 l6 : List UInt8) : (⟨#[90, 65]⟩ : ByteArray) ++ ⟨l1.toArray⟩ ++ ⟨l2.toArray⟩ ++ ⟨l3.toArray⟩ ++ ⟨l4.toArray⟩ ++ ⟨l5.toArray⟩ ++ ⟨#[0]⟩ ++ ⟨l6.toArray⟩ = ⟨([90, 65] ++ (l1 ++ (l2 ++ (l3 ++ (l4 ++ (l5 ++ ([0] ++ l6))))))).toArray⟩ := by
  apply ByteArray.ext
  simp
theorem body_chain {k b v m : Int} {p : ByteArray} (h : RecMath.checkE (mk k b v m p) = 0) :
    [90, 65] ++ (CodecMath.putL k 1 ++ (CodecMath.putL p.size 1 ++ (CodecMath.putL b 4 ++ (CodecMath.putL v 6 ++ (CodecMath.putL m 1 ++ ([0] ++ padL p.data.toList 20)))))) = RecMath.body (mk k b v m p) := by
  rw [← body_parts h]
  unfold parts padL
  rw [size_list, show CodecMath.putL 0 1 = [0] by decide]
set_option maxHeartbeats 1000000 in
set_option maxRecDepth 20000 in
theorem refEncode_any (k b v m : Int) (p : ByteArray) (w : World) :
    Calls Try.prog 50 #[.agg #[.int .i64 k, .int .i64 b, .int .i64 v, .int .i64 m, .string p]] w fun e w' => e = .returned (.tuple #[.string ⟨(RecMath.encL (mk k b v m p)).toArray⟩, .int .i64 (RecMath.checkE (mk k b v m p))]) ∧ Below w.heap.size w w' := by
  have hc := refCheck_any k b v m p
  by_cases h : RecMath.checkE (mk k b v m p) = 0
  · have hp := (RecMath.check_ok h).2.2.2.2.2.2.2.2.1
    rw [mk_len] at hp
    have g1 := number_any k 1
    have g2 := number_any p.size 1
    have g3 := number_any b 4
    have g4 := number_any v 6
    have g5 := number_any m 1
    have g6 := fun w => refPad_any p 20 w (by decide)
    have l1 := size_bytes (CodecMath.putL k 1)
    have l2 := size_bytes (CodecMath.putL p.size 1)
    have l3 := size_bytes (CodecMath.putL b 4)
    have l4 := size_bytes (CodecMath.putL v 6)
    have l5 := size_bytes (CodecMath.putL m 1)
    have l6 := size_bytes (padL p.data.toList 20)
    have k1 := putL_len k 1 (by decide)
    have k2 := putL_len p.size 1 (by decide)
    have k3 := putL_len b 4 (by decide)
    have k4 := putL_len v 6 (by decide)
    have k5 := putL_len m 1 (by decide)
    have k6 : (padL p.data.toList 20).length ≤ 20 := by rw [padL, List.length_append, List.length_replicate, size_list]; omega
    have hch := chain_bytes (CodecMath.putL k 1) (CodecMath.putL p.size 1) (CodecMath.putL b 4) (CodecMath.putL v 6) (CodecMath.putL m 1) (padL p.data.toList 20)
    rw [body_chain h] at hch
    have hs := fun w => refSeal_any ⟨(RecMath.body (mk k b v m p)).toArray⟩ w (by rw [size_bytes, RecMath.body_length (by rw [mk_len]; exact hp)]; decide)
    rw [toList_mk] at hs
    rw [show RecMath.encL (mk k b v m p) = RecMath.sealL (RecMath.body (mk k b v m p)) from if_pos h]
    rw [h] at hc ⊢
    generalize (⟨(RecMath.sealL (RecMath.body (mk k b v m p))).toArray⟩ : ByteArray) = SS at hs ⊢
    generalize (⟨(RecMath.body (mk k b v m p)).toArray⟩ : ByteArray) = BB at hs hch
    generalize (⟨(CodecMath.putL k 1).toArray⟩ : ByteArray) = X1 at *
    generalize (⟨(CodecMath.putL p.size 1).toArray⟩ : ByteArray) = X2 at *
    generalize (⟨(CodecMath.putL b 4).toArray⟩ : ByteArray) = X3 at *
    generalize (⟨(CodecMath.putL v 6).toArray⟩ : ByteArray) = X4 at *
    generalize (⟨(CodecMath.putL m 1).toArray⟩ : ByteArray) = X5 at *
    generalize (⟨(padL p.data.toList 20).toArray⟩ : ByteArray) = X6 at *
    have z1 : X1.size ≤ 7 := by omega
    have z2 : X2.size ≤ 7 := by omega
    have z3 : X3.size ≤ 7 := by omega
    have z4 : X4.size ≤ 7 := by omega
    have z5 : X5.size ≤ 7 := by omega
    have z6 : X6.size ≤ 20 := by omega
    have y0 : (⟨#[90, 65]⟩ : ByteArray).size = 2 := rfl
    have y7 : (⟨#[0]⟩ : ByteArray).size = 1 := rfl
    have s1 : 2 + X1.size ≤ 9223372036854775807 := by omega
    have s2 : 2 + X1.size + X2.size ≤ 9223372036854775807 := by omega
    have s3 : 2 + X1.size + X2.size + X3.size ≤ 9223372036854775807 := by omega
    have s4 : 2 + X1.size + X2.size + X3.size + X4.size ≤ 9223372036854775807 := by omega
    have s5 : 2 + X1.size + X2.size + X3.size + X4.size + X5.size ≤ 9223372036854775807 := by omega
    have s6 : 2 + X1.size + X2.size + X3.size + X4.size + X5.size + 1 ≤ 9223372036854775807 := by omega
    have s7 : 2 + X1.size + X2.size + X3.size + X4.size + X5.size + 1 + X6.size ≤ 9223372036854775807 := by omega
    clear y0 y7 z1 z2 z3 z4 z5 z6 l1 l2 l3 l4 l5 l6 k1 k2 k3 k4 k5 k6
    have HC := Lib.hid hc
    have H1 := Lib.hid g1
    have H2 := Lib.hid g2
    have H3 := Lib.hid g3
    have H4 := Lib.hid g4
    have H5 := Lib.hid g5
    have H6 := Lib.hid g6
    have HS := Lib.hid hs
    have HB := Lib.hid hch
    clear hc g1 g2 g3 g4 g5 g6 hs hch h
    go_enter Try.func50, Try.ntmps50
    go_wp2_with (first
      | (go_at_call 55; ((with_reducible refine (HC.out _).mono ?_); rintro e w1 ⟨rfl, hb1⟩; obtain ⟨hc1, hf1⟩ := bcell hb1)))
    have hz : w.heap.size + 1 ≤ w1.heap.size := by have := hb1.size; simpa using this
    refine Plan.start (Held (w.heap.size + 1) w1) [(0, true), (1, true), (4, true), (5, true), (6, true), (9, true), (10, true), (13, true), (14, true), (17, true), (18, true), (22, true), (23, true), (2, false), (3, true), (7, false), (8, true), (11, false), (12, true), (15, false), (16, true), (19, false), (20, true), (21, true), (24, false), (25, true), (26, true)] (by kernel_rfl) (by kernel_rfl) (by kernel_rfl) (by kernel_rfl) held_same ?_
    simp only [List.map_cons, List.map_nil, List.getElem?_toArray, List.getElem?_cons_zero, List.getElem?_cons_succ]
    repeat (refine Plan.take ?_ (by rfl) ?_ ?_; rotate_left; (· rintro w9 ⟨hS9, -⟩; go_simp; (try rw [if_neg (by omega)]); all_goals (with_reducible rfl)); simp only [Act.put, List.setIfInBounds_toArray, List.set_cons_zero, List.set_cons_succ])
    have hS1 : Held (w.heap.size + 1) w1 w1.drew := held_same
    refine Plan.call (by rfl) 56 _ ?_ (H1.out _) ?_
    · go_simp
    rintro e w2 ⟨rfl, hb2⟩
    have hS2 := held_call hz hS1 hb2
    refine ⟨_, rfl, hS2, ?_⟩
    simp only [Act.put, List.setIfInBounds_toArray, List.set_cons_zero, List.set_cons_succ]
    repeat (refine Plan.take ?_ (by rfl) ?_ ?_; rotate_left; (· rintro w9 ⟨hS9, -⟩; go_simp; (try rw [if_neg (by omega)]); all_goals (with_reducible rfl)); simp only [Act.put, List.setIfInBounds_toArray, List.set_cons_zero, List.set_cons_succ])
    refine Plan.call (by rfl) 56 _ ?_ (H2.out _) ?_
    · go_simp
    rintro e w3 ⟨rfl, hb3⟩
    have hS3 := held_call hz hS2 hb3
    refine ⟨_, rfl, hS3, ?_⟩
    simp only [Act.put, List.setIfInBounds_toArray, List.set_cons_zero, List.set_cons_succ]
    repeat (refine Plan.take ?_ (by rfl) ?_ ?_; rotate_left; (· rintro w9 ⟨hS9, -⟩; go_simp; (try rw [if_neg (by omega)]); all_goals (with_reducible rfl)); simp only [Act.put, List.setIfInBounds_toArray, List.set_cons_zero, List.set_cons_succ])
    refine Plan.call (by rfl) 56 _ ?_ (H3.out _) ?_
    · go_simp
    rintro e w4 ⟨rfl, hb4⟩
    have hS4 := held_call hz hS3 hb4
    refine ⟨_, rfl, hS4, ?_⟩
    simp only [Act.put, List.setIfInBounds_toArray, List.set_cons_zero, List.set_cons_succ]
    repeat (refine Plan.take ?_ (by rfl) ?_ ?_; rotate_left; (· rintro w9 ⟨hS9, -⟩; go_simp; (try rw [if_neg (by omega)]); all_goals (with_reducible rfl)); simp only [Act.put, List.setIfInBounds_toArray, List.set_cons_zero, List.set_cons_succ])
    refine Plan.call (by rfl) 56 _ ?_ (H4.out _) ?_
    · go_simp
    rintro e w5 ⟨rfl, hb5⟩
    have hS5 := held_call hz hS4 hb5
    refine ⟨_, rfl, hS5, ?_⟩
    simp only [Act.put, List.setIfInBounds_toArray, List.set_cons_zero, List.set_cons_succ]
    repeat (refine Plan.take ?_ (by rfl) ?_ ?_; rotate_left; (· rintro w9 ⟨hS9, -⟩; go_simp; (try rw [if_neg (by omega)]); all_goals (with_reducible rfl)); simp only [Act.put, List.setIfInBounds_toArray, List.set_cons_zero, List.set_cons_succ])
    refine Plan.call (by rfl) 56 _ ?_ (H5.out _) ?_
    · go_simp
    rintro e w6 ⟨rfl, hb6⟩
    have hS6 := held_call hz hS5 hb6
    refine ⟨_, rfl, hS6, ?_⟩
    simp only [Act.put, List.setIfInBounds_toArray, List.set_cons_zero, List.set_cons_succ]
    repeat (refine Plan.take ?_ (by rfl) ?_ ?_; rotate_left; (· rintro w9 ⟨hS9, -⟩; go_simp; (try rw [if_neg (by omega)]); all_goals (with_reducible rfl)); simp only [Act.put, List.setIfInBounds_toArray, List.set_cons_zero, List.set_cons_succ])
    refine Plan.call (by rfl) 57 _ ?_ (H6.out _) ?_
    · go_simp
    rintro e w7 ⟨rfl, hb7⟩
    have hS7 := held_call hz hS6 hb7
    refine ⟨_, rfl, hS7, ?_⟩
    simp only [Act.put, List.setIfInBounds_toArray, List.set_cons_zero, List.set_cons_succ]
    repeat (refine Plan.take ?_ (by rfl) ?_ ?_; rotate_left; (· rintro w9 ⟨hS9, -⟩; go_simp; (try rw [if_neg (by omega)]); all_goals (with_reducible rfl)); simp only [Act.put, List.setIfInBounds_toArray, List.set_cons_zero, List.set_cons_succ])
    refine Plan.ends ?_
    go_wp2_with (go_at_call 58; rw [HB.out]; ((with_reducible refine (HS.out _).mono ?_); rintro e w8 ⟨rfl, hb8⟩))
    go_ret2
    exact ⟨rfl, ((((Below.refl _ _).alloc (Nat.le_refl _) _).trans (hb1.mono (by simp))).trans ((hS7.2.mono (Nat.le_succ _)))).trans (hb8.mono (by have := hS7.2.size; omega))⟩
  · rw [show RecMath.encL (mk k b v m p) = [] from if_neg h]
    generalize RecMath.checkE (mk k b v m p) = E at *
    have hE : (E != 0) = true := by simpa using h
    have HC := Lib.hid hc
    clear hc h
    go_enter Try.func50, Try.ntmps50
    go_wp2_with (first
      | (go_at_call 55; ((with_reducible refine (HC.out _).mono ?_); rintro e w1 ⟨rfl, hb1⟩; obtain ⟨hc1, hf1⟩ := bcell hb1)))
    go_ret2
    exact ⟨rfl, ((Below.refl _ _).alloc (Nat.le_refl _) _).trans (hb1.mono (by simp))⟩

end Go.Proofs.Ytlplomofgbmgaaa

/- The walk of what the decoder reads in a sector. -/
namespace Go.Proofs.Ytlplomofgbmgaaa
open Go.RowKit Plan

/-- a record's cells -/
def recV (r : RecMath.Rec) : Array Value := #[.int .i64 r.kind, .int .i64 r.block, .int .i64 r.version, .int .i64 r.move, .string ⟨r.payload.toArray⟩]
theorem list40 {s : ByteArray} (h : s.size = 40) : s.data.toList.length = 40 := by rw [size_list]; exact h
theorem getN_field {l : List UInt8} (hl : l.length = 40) (a k : Nat) (h1 : 1 ≤ k) (h7 : k ≤ 7) (h : a + k ≤ 40) : CodecMath.getN l a k = (RecMath.field l a k : Nat) := by
  unfold CodecMath.getN
  rw [if_pos]
  · rfl
  · simp only [CodecMath.okArg, CodecMath.okAt, Bool.and_eq_true, decide_eq_true_eq, hl]
    omega
end Go.Proofs.Ytlplomofgbmgaaa
