/- Texts that belong together, part 8. -/
import Derived.Test.YthhggiifbldaeaaPack7
import Derived.OwnWalk
import Derived.Laws.AppendOwn
import Derived.Laws.AppendOwnNone
import Derived.WalkMore

/- Where a walk with any number of boxes of its own stands: what each box holds, and that all below is as it was. -/
namespace Go.Proofs.Ythhggiifbldaeaa.Ents
open Go.RowKit Plan
structure Bxs (w W : World) (B : List (Nat × Obj)) : Prop where
  at' : ∀ x ∈ B, W.heap[x.1]? = some x.2
  lo : ∀ x ∈ B, w.heap.size ≤ x.1
  nd : (B.map (·.1)).Nodup
  hb : Below w.heap.size w W
section
variable {w W W' : World} {B : List (Nat × Obj)}
theorem Bxs.start (w : World) : Bxs w w [] := ⟨fun _ h => absurd h (by simp), fun _ h => absurd h (by simp), List.nodup_nil, Below.refl _ _⟩
theorem Bxs.get (K : Bxs w W B) (i : Nat) {g : Nat} {o : Obj} (h : B[i]? = some (g, o)) : W.heap[g]? = some o := K.at' _ (List.mem_of_getElem? h)
theorem Bxs.on (K : Bxs w W B) (h : Below W.heap.size W W') : Bxs w W' B := ⟨fun x hx => e_on h (K.at' x hx) (e_lt (K.at' x hx)), K.lo, K.nd, K.hb.trans (h.mono K.hb.size)⟩
theorem Bxs.lt (K : Bxs w W B) {x : Nat × Obj} (h : x ∈ B) : x.1 < W.heap.size := e_lt (K.at' x h)
theorem Bxs.drew (K : Bxs w W B) : Bxs w W.drew B := K.on (Below.refl _ _).drew
theorem Bxs.al' (K : Bxs w W B) (o : Obj) : Bxs w (W.alloc o) B := K.on ((Below.refl _ _).alloc (Nat.le_refl _) o)
theorem Bxs.al (K : Bxs w W B) (o : Obj) : Bxs w (W.alloc o) ((W.heap.size, o) :: B) := by
  have h := K.al' o
  refine ⟨fun x hx => ?_, fun x hx => ?_, ?_, h.hb⟩
  · rcases List.mem_cons.1 hx with rfl | hx
    · exact heap_alloc_new W o
    · exact h.at' x hx
  · rcases List.mem_cons.1 hx with rfl | hx
    · exact K.hb.size
    · exact K.lo x hx
  · rw [List.map_cons, List.nodup_cons]
    refine ⟨fun hm => ?_, K.nd⟩
    obtain ⟨y, hy, he⟩ := List.mem_map.1 hm
    have := K.lt hy
    omega
theorem nodup_ne {l : List Nat} (h : l.Nodup) {i j : Nat} {a b : Nat} (hi : l[i]? = some a) (hj : l[j]? = some b) (hne : i ≠ j) : a ≠ b := by
  rintro rfl
  obtain ⟨h1, h2⟩ := List.getElem?_eq_some_iff.1 hi
  obtain ⟨h3, h4⟩ := List.getElem?_eq_some_iff.1 hj
  have hp := List.pairwise_iff_getElem.1 h
  rcases Nat.lt_or_ge i j with hl | hl
  · exact hp i j h1 h3 hl (h2.trans h4.symm)
  · exact hp j i h3 h1 (by omega) (h4.trans h2.symm)
theorem Bxs.put (K : Bxs w W B) (i : Nat) {g : Nat} {cs cs' : Array Value} {t : TypeId} (h : B[i]? = some (g, .cells cs t (0, 0))) {B' : List (Nat × Obj)} (hB : B' = B.set i (g, .cells cs' t (0, 0))) : Bxs w (W.setRow g cs') B' := by
  subst hB
  have hg := K.get i h
  have hi : i < B.length := (List.getElem?_eq_some_iff.1 h).1
  have hlo : w.heap.size ≤ g := K.lo (g, _) (List.mem_of_getElem? h)
  have hm : (B.set i (g, .cells cs' t (0, 0))).map (·.1) = B.map (·.1) := by
    rw [List.map_set]
    refine List.ext_getElem? fun j => ?_
    rw [List.getElem?_set]
    by_cases hj : i = j
    · subst hj
      rw [if_pos rfl, if_pos (by simpa using hi), List.getElem?_map, h]
      rfl
    · rw [if_neg hj]
  refine ⟨fun x hx => ?_, fun x hx => ?_, by rw [hm]; exact K.nd, below_setRow K.hb hlo _⟩
  · obtain ⟨j, hj⟩ := List.mem_iff_getElem?.1 hx
    rw [List.getElem?_set] at hj
    by_cases hij : i = j
    · subst hij
      rw [if_pos rfl, if_pos hi] at hj
      obtain rfl := Option.some.inj hj
      exact setRow_heap _ _ _ _ _ _ hg
    · rw [if_neg hij] at hj
      have hne := nodup_ne K.nd (i := i) (j := j) (a := g) (b := x.1) (by rw [List.getElem?_map, h]; rfl) (by rw [List.getElem?_map, hj]; rfl) hij
      exact (setRow_other _ _ _ _ (fun e => hne e.symm)).trans (K.at' x (List.mem_of_getElem? hj))
  · obtain ⟨j, hj⟩ := List.mem_iff_getElem?.1 hx
    rw [List.getElem?_set] at hj
    by_cases hij : i = j
    · subst hij
      rw [if_pos rfl, if_pos hi] at hj
      obtain rfl := Option.some.inj hj
      exact hlo
    · rw [if_neg hij] at hj
      exact K.lo x (List.mem_of_getElem? hj)
/-- a list that the walk owns grows: the boxes stay, if it lies in none of them -/
theorem Bxs.grown {o : Option Nat} (K : Bxs w W B) (h : W.grownBy W' o) (ho : ∀ z, o = some z → w.heap.size ≤ z ∧ ∀ x ∈ B, x.1 ≠ z) : Bxs w W' B :=
  ⟨fun x hx => (h.block _ (K.lt hx) (fun e => (ho _ e.symm).2 x hx rfl)).trans (K.at' x hx), K.lo, K.nd, K.hb.grown h K.hb.size (fun z hz => (ho z hz).1)⟩
end
end Go.Proofs.Ythhggiifbldaeaa.Ents

/- The walks of the maker's dice: Light, Roll, Next, for any list of numbers. -/
namespace Go.Proofs.Ythhggiifbldaeaa
open Go.RowKit

/-- a list of numbers that came in -/
def IsRow (k : IntKind) (w : World) (a : Option Addr) (len cap : Nat) (zs : List Int) : Prop :=
  (a = none ∧ len = 0 ∧ cap = 0 ∧ zs = []) ∨
  ∃ x, a = some x ∧ len ≤ cap ∧ cap ≤ maxLen ∧ zs.length = cap ∧ (∀ i, i < zs.length → w.cell? (x.add i) = some (.int k (zs.getD i 0))) ∧ ∀ n ∈ zs, (Lit.int k n).wf = true
theorem IsRow.len_le {k : IntKind} {w : World} {a : Option Addr} {len cap : Nat} {zs : List Int} (h : IsRow k w a len cap zs) : len ≤ maxLen := by
  rcases h with ⟨_, rfl, _⟩ | ⟨x, _, h1, h2, _⟩
  · unfold maxLen; omega
  · omega
theorem light_any (a : Option Addr) (len cap : Nat) (w : World) :
    Calls Try.prog 5 #[.slice a len cap] w fun e w' => e = .returned (.bool (decide ((len : Int) ≤ 300))) ∧ w = w' := by
  go_enter Try.func5, Try.ntmps5
  go_wp2
  go_ret
  exact ⟨rfl, rfl⟩

/-- the numbers as cells -/
def ints (zs : List Int) : List Value := zs.map fun n => .int .i64 n
/-- dice: a pointer to a list of numbers of its own, and how many of them have been given out -/
def Dice (w : World) (base g : Nat) (zs : List Int) (k : Nat) : Prop :=
  ∃ v, w.heap[g]? = some (.cells #[v, .int .i64 k] 94 (0, 0)) ∧ w.ownsRow base 3 1 v zs.length (ints zs) ∧ (∀ b, v.ownBlock = some b → b < g) ∧ base ≤ g
/-- the number that is given out, and how many then have been -/
def nxt (zs : List Int) (k : Nat) (n : Int) : Int := if k < zs.length then zs.getD k 0 % n else 0
def stp (zs : List Int) (k : Nat) : Nat := if k < zs.length then k + 1 else k
theorem nxt_range (zs : List Int) (k : Nat) (n : Int) (h : 1 ≤ n) : 0 ≤ nxt zs k n ∧ nxt zs k n < n := by
  unfold nxt
  split
  · exact ⟨Int.emod_nonneg _ (by omega), Int.emod_lt_of_pos _ (by omega)⟩
  · omega
theorem stp_le (zs : List Int) (k : Nat) : stp zs k ≤ k + 1 := by unfold stp; split <;> omega
theorem dice_lt {w : World} {base g : Nat} {zs : List Int} {k : Nat} (h : Dice w base g zs k) : g < w.heap.size := by
  obtain ⟨v, hg, _⟩ := h
  exact (Array.getElem?_eq_some_iff.1 hg).1
theorem dice_base {w : World} {base g : Nat} {zs : List Int} {k : Nat} (h : Dice w base g zs k) : base ≤ g := by
  obtain ⟨v, _, _, _, hb⟩ := h
  exact hb
/-- dice stay as they are where nothing that was there has changed -/
theorem dice_on {B : Nat} {w w' : World} {base g : Nat} {zs : List Int} {k : Nat} (h : Dice w base g zs k) (hb : Below B w w') (hB : w.heap.size ≤ B) : Dice w' base g zs k := by
  have hlt := dice_lt h
  obtain ⟨v, hg, hown, hne, hbase⟩ := h
  refine ⟨v, (hb.block g (by omega)).trans hg, ?_, hne, hbase⟩
  refine hown.kept (row := none) ⟨hb.os, hb.tape, hb.output, hb.size, fun i hi _ => hb.block i (by omega)⟩ ?_
  cases v.ownBlock <;> simp
/-- dice stay as they are where a block that was made later is written -/
theorem dice_far {w w' : World} {base g x : Nat} {zs : List Int} {k : Nat} (h : Dice w base g zs k) (hg : w.grownBy w' (some x)) (hx : g < x) : Dice w' base g zs k := by
  have hlt := dice_lt h
  obtain ⟨v, hr, hown, hne, hbase⟩ := h
  refine ⟨v, (hg.block g hlt (fun e => by have := Option.some.inj e; omega)).trans hr, hown.kept hg (.inr fun e => by have := hne x e; omega), hne, hbase⟩
theorem int_info : (Try.prog.info? 3).map (fun i => (i.zero, i.size, i.bytes)) = some (some (.int .i64 0), 1, 8) := by kernel_rfl
def RollPost (w : World) (zs : List Int) (e : Ending) (w' : World) : Prop := ∃ g, e = .returned (.pointer (some ⟨g, 0, none⟩)) ∧ Dice w' w.heap.size g zs 0 ∧ Below w.heap.size w w'
theorem ints_length (zs : List Int) : (ints zs).length = zs.length := by simp [ints]
theorem ints_get {zs : List Int} {j : Nat} {u : Value} (h : (ints zs)[j]? = some u) : j < zs.length ∧ u = .int .i64 (zs.getD j 0) := by
  have hj : j < zs.length := by
    have := (List.getElem?_eq_some_iff.1 h).1
    rwa [ints_length] at this
  refine ⟨hj, ?_⟩
  simp only [ints, List.getElem?_map, List.getElem?_eq_getElem hj, Option.map_some, Option.some.injEq] at h
  rw [← h, List.getD_eq_getElem?_getD, List.getElem?_eq_getElem hj]
  rfl
theorem ints_one (zs : List Int) : ∀ u ∈ ints zs, u.oneCell' = true := by
  intro u hu
  obtain ⟨n, _, rfl⟩ := List.mem_map.1 hu
  rfl
theorem ints_news {x : Addr} {w : World} {zs : List Int} (hc : ∀ j, j < zs.length → w.cell? (x.add j) = some (.int .i64 (zs.getD j 0))) (o : Obj) : ∀ j u, (ints zs)[j]? = some u → (w.alloc o).cell? (x.add j) = some u := by
  intro j u hu
  obtain ⟨hj, rfl⟩ := ints_get hu
  have h := hc j hj
  rw [World.cell?_alloc_lt _ _ _ (World.block_lt_of_cell? w _ h)]
  exact h
theorem dice_made {w w1 : World} {zs : List Int} {g' c' : Nat} (hown : w1.ownsRow w.heap.size 3 1 (.slice (some ⟨g', 0, none⟩) zs.length c') zs.length (ints zs)) (hb : Below w.heap.size w w1) :
    Dice (w1.alloc (.cells #[.slice (some ⟨g', 0, none⟩) zs.length c', .int .i64 0] 94)) w.heap.size w1.heap.size zs 0 := by
  refine ⟨_, heap_alloc_new w1 _, hown.alloc _, ?_, hb.size⟩
  intro b hb'
  have h : g' = b := Option.some.inj (show some g' = some b from hb')
  subst h
  exact (hown.lt g' rfl).2
theorem slice_of {w : World} {base : Nat} {e : TypeId} {v : Value} {n : Nat} {xs : List Value} (h : w.ownsRow base e 1 v n xs) (hv : v ≠ .slice none 0 0) : ∃ g c, v = .slice (some ⟨g, 0, none⟩) n c := by
  rcases h.2 with ⟨h, _⟩ | ⟨g, c, _, h, _⟩
  · exact absurd h hv
  · exact ⟨g, c, h⟩
set_option maxHeartbeats 400000 in
theorem roll_some (x : Addr) (len cap : Nat) (zs : List Int) (w : World) (hc : ∀ j, j < zs.length → w.cell? (x.add j) = some (.int .i64 (zs.getD j 0))) (hz : zs.length = len) (hl : len ≤ 300) :
    Calls Try.prog 14 #[.slice (some x) len cap] w (RollPost w zs) := by
  obtain ⟨i0, hi0, hz0, hz1, hz2⟩ := info_parts int_info
  have HN := Lib.hid (ints_news hc (.cells #[] 3))
  have HM := Lib.hid (World.ownsRow_made (base := w.heap.size) (e := 3) (size := 1) w #[] 0 (Nat.le_refl _) (Nat.zero_le _) rfl)
  have HZ := Lib.hid hz
  clear hc hz
  go_enter Try.func14, Try.ntmps14
  go_wp2_with (at_builtin; refine wpList_append_own _ rfl _ _ 22 rfl w.heap.size 3 i0 (.int .i64 0) 1 8 Try.underlying22 hi0 hz0 hz1 hz2 rfl (by decide) _ 0 [] rfl HM.out x len cap (ints zs) rfl (by rw [ints_length, HZ.out, Nat.mul_one]) HN.out (ints_one zs) (by unfold maxLen; omega) (by omega) (by simp) ?_; intro v' w1 hown hgrow hiff; obtain ⟨g', c', hv'⟩ := slice_of hown (fun h => by have := (hiff.1 h).1; cases this); subst hv')
  have hb : Below w.heap.size w w1 := ((Below.refl w.heap.size w).alloc (Nat.le_refl _) _).grown hgrow (by simp) (fun k hk => Nat.le_of_eq (Option.some.inj (show some w.heap.size = some k from hk)))
  have hown2 : w1.ownsRow w.heap.size 3 1 (.slice (some ⟨g', 0, none⟩) zs.length c') zs.length (ints zs) := by
    have h := hown
    rw [Nat.zero_add, List.nil_append, ← HZ.out] at h
    obtain ⟨h1, h2⟩ := h
    refine ⟨h1, ?_⟩
    rcases h2 with ⟨h, _⟩ | ⟨g, cp, cur, h, rest⟩
    · cases h
    · cases h; exact .inr ⟨_, _, cur, rfl, rest⟩
  have hd := Lib.hid (dice_made hown2 hb)
  rw [HZ.out] at hd
  clear hown hown2 hiff hgrow
  go_ret
  exact ⟨w1.heap.size, rfl, hd.out, hb.alloc hb.size _⟩
theorem roll_none (w : World) : Calls Try.prog 14 #[.slice none 0 0] w (RollPost w []) := by
  obtain ⟨i0, hi0, hz0, hz1, hz2⟩ := info_parts int_info
  have HM := Lib.hid (World.ownsRow_made (base := w.heap.size) (e := 3) (size := 1) w #[] 0 (Nat.le_refl _) (Nat.zero_le _) rfl)
  have hd := Lib.hid (dice_made (w := w) (zs := []) HM.out ((Below.refl w.heap.size w).alloc (Nat.le_refl _) _))
  go_enter Try.func14, Try.ntmps14
  go_wp2_with (at_builtin; refine wpList_append_own_none rfl _ _ 22 rfl w.heap.size 3 i0 1 Try.underlying22 hi0 _ 0 [] rfl HM.out rfl ?_)
  go_ret
  exact ⟨_, rfl, (by have h := hd.out; rw [World.size_alloc] at h; exact h), (((Below.refl w.heap.size w).alloc (Nat.le_refl _) _)).alloc (by simp) _⟩
/-- Roll, for any list of at most 300 numbers -/
theorem roll_any (a : Option Addr) (len cap : Nat) (z : List Int) (w : World) (hrow : IsRow .i64 w a len cap z) (hl : len ≤ 300) :
    Calls Try.prog 14 #[.slice a len cap] w (RollPost w (z.take len)) := by
  rcases hrow with ⟨rfl, rfl, rfl, rfl⟩ | ⟨x, rfl, h1, h2, h3, h4, h5⟩
  · exact roll_none w
  · have hz : (z.take len).length = len := by rw [List.length_take]; omega
    refine roll_some x len cap (z.take len) w (fun j hj => ?_) hz hl
    rw [h4 j (by omega)]
    rw [List.getD_eq_getElem?_getD, List.getD_eq_getElem?_getD, List.getElem?_take, if_pos (by omega)]
end Go.Proofs.Ythhggiifbldaeaa

/- The walk of the maker's Next, for any dice. -/
namespace Go.Proofs.Ythhggiifbldaeaa
open Go.RowKit Plan

/-- behind Next: the number, the dice one further, nothing else changed -/
def NextPost (w : World) (base g : Nat) (zs : List Int) (k : Nat) (n : Int) (e : Ending) (w' : World) : Prop :=
  e = .returned (.int .i64 (nxt zs k n)) ∧ Dice w' base g zs (stp zs k) ∧ w.grownBy w' (some g) ∧ w'.heap.size = w.heap.size
theorem dice_drew {w : World} {base g : Nat} {zs : List Int} {k : Nat} (h : Dice w base g zs k) : Dice w.drew base g zs k := dice_on h (Below.refl _ _).drew (Nat.le_refl _)
theorem grownBy_drew (w : World) (r : Option Nat) : w.grownBy w.drew r := ⟨rfl, rfl, rfl, Nat.le_refl _, fun _ _ _ => rfl⟩
set_option maxHeartbeats 400000 in
theorem next_end (w : World) (base g : Nat) (zs : List Int) (k : Nat) (n : Int) (hd : Dice w base g zs k) (hk : zs.length ≤ k) :
    Calls Try.prog 17 #[.pointer (some ⟨g, 0, none⟩), .int .i64 n] w (NextPost w base g zs k n) := by
  have hd2 := dice_drew hd
  obtain ⟨v, hg, hown, hne, hb⟩ := hd
  have c0 := cell_of_row _ _ 0 _ _ _ hg
  have c1 := cell_of_row _ _ 1 _ _ _ hg
  simp only [List.getElem?_toArray, List.getElem?_cons_zero, List.getElem?_cons_succ] at c0 c1
  have hle : decide ((zs.length : Int) ≤ (k : Int)) = true := by simp; omega
  have hv : v = .slice none 0 0 ∧ zs.length = 0 ∨ ∃ b c, v = .slice (some ⟨b, 0, none⟩) zs.length c := by
    rcases hown.2 with h | ⟨b, c, _, h, _⟩
    · exact .inl h
    · exact .inr ⟨b, c, h⟩
  have hx : nxt zs k n = 0 := if_neg (by omega)
  have hs : stp zs k = k := if_neg (by omega)
  have HX := Lib.hid hx
  have HS := Lib.hid hs
  have HD := Lib.hid hd2
  clear hx hs hd2 hg hown
  rcases hv with ⟨rfl, h0⟩ | ⟨b, c, rfl⟩
  · rw [h0] at hle
    clear h0
    go_enter Try.func17, Try.ntmps17
    go_wp2_with fail
    refine Plan.start (fun w' => w' = w.drew) [(0, true), (1, true), (2, true), (3, true), (4, true), (5, true), (6, true), (7, true), (8, true), (9, true)] (by kernel_rfl) (by kernel_rfl) (by kernel_rfl) (by kernel_rfl) rfl ?_
    simp only [List.map_cons, List.map_nil, List.getElem?_toArray, List.getElem?_cons_zero, List.getElem?_cons_succ]
    repeat (first | (refine Plan.take ?_ (by rfl) ?_ ?_; rotate_left; (· rintro w9 rfl; go_simp; (try rw [if_neg (by omega)]); all_goals (with_reducible rfl)); simp only [Act.put, List.setIfInBounds_toArray, List.set_cons_zero, List.set_cons_succ]) | (refine Plan.pass (by rfl) ?_; simp only [Act.put, List.setIfInBounds_toArray, List.set_cons_zero, List.set_cons_succ]))
    refine Plan.ends ?_
    go_wp2
    go_ret
    exact ⟨ret_i64 HX.out.symm, by rw [HS.out]; exact HD.out, grownBy_drew _ _, rfl⟩
  · go_enter Try.func17, Try.ntmps17
    go_wp2_with fail
    refine Plan.start (fun w' => w' = w.drew) [(0, true), (1, true), (2, true), (3, true), (4, true), (5, true), (6, true), (7, true), (8, true), (9, true)] (by kernel_rfl) (by kernel_rfl) (by kernel_rfl) (by kernel_rfl) rfl ?_
    simp only [List.map_cons, List.map_nil, List.getElem?_toArray, List.getElem?_cons_zero, List.getElem?_cons_succ]
    repeat (first | (refine Plan.take ?_ (by rfl) ?_ ?_; rotate_left; (· rintro w9 rfl; go_simp; (try rw [if_neg (by omega)]); all_goals (with_reducible rfl)); simp only [Act.put, List.setIfInBounds_toArray, List.set_cons_zero, List.set_cons_succ]) | (refine Plan.pass (by rfl) ?_; simp only [Act.put, List.setIfInBounds_toArray, List.set_cons_zero, List.set_cons_succ]))
    refine Plan.ends ?_
    go_wp2
    go_ret
    exact ⟨ret_i64 HX.out.symm, by rw [HS.out]; exact HD.out, grownBy_drew _ _, rfl⟩
theorem dice_step {w : World} {base g : Nat} {zs : List Int} {k : Nat} (h : Dice w base g zs k) (j : Nat) : Dice (w.setCell ⟨g, 1, none⟩ (.int .i64 j)) base g zs j := by
  obtain ⟨v, hg, hown, hne, hb⟩ := h
  refine ⟨v, ?_, hown.kept (row := some g) ⟨rfl, rfl, rfl, Nat.le_of_eq (by simp [World.setCell]), fun i _ hne => Below.heap_setCell w ⟨g, 1, none⟩ _ i (fun e => hne (by rw [e]))⟩ (.inr fun e => Nat.lt_irrefl _ (hne g e)), hne, hb⟩
  rw [setCell_eq_setRow w g 1 _ _ _ _ hg]
  exact setRow_heap w g _ _ _ _ hg
theorem grownBy_step (w : World) (g : Nat) (x : Value) : w.grownBy (w.setCell ⟨g, 1, none⟩ x) (some g) :=
  ⟨rfl, rfl, rfl, Nat.le_of_eq (by simp [World.setCell]), fun i _ hne => Below.heap_setCell w ⟨g, 1, none⟩ _ i (fun e => hne (by rw [e]))⟩
theorem grownBy_trans {a b c : World} {r : Option Nat} (h : a.grownBy b r) (h2 : b.grownBy c r) : a.grownBy c r :=
  ⟨h2.os.trans h.os, h2.tape.trans h.tape, h2.output.trans h.output, Nat.le_trans h.size h2.size, fun k hk hr => (h2.block k (Nat.lt_of_lt_of_le hk h.size) hr).trans (h.block k hk hr)⟩
set_option maxHeartbeats 1000000 in
theorem next_more (w : World) (base g : Nat) (zs : List Int) (k : Nat) (n : Int) (hd : Dice w base g zs k) (hk : k < zs.length) (hl : zs.length ≤ 100000) (hn1 : 1 ≤ n) (hn2 : n ≤ 4611686018427387904) :
    Calls Try.prog 17 #[.pointer (some ⟨g, 0, none⟩), .int .i64 n] w (NextPost w base g zs k n) := by
  have hstep := dice_step (dice_drew hd) (k + 1)
  obtain ⟨v, hg, hown, hne, hb⟩ := hd
  have c0 := cell_of_row _ _ 0 _ _ _ hg
  have c1 := cell_of_row _ _ 1 _ _ _ hg
  simp only [List.getElem?_toArray, List.getElem?_cons_zero, List.getElem?_cons_succ] at c0 c1
  have f1 : w.frozen? ⟨g, 1, none⟩ = false := by simp [World.frozen?, hg]
  have hle : decide ((zs.length : Int) ≤ (k : Int)) = false := by simp; omega
  have hv : ∃ b c, v = .slice (some ⟨b, 0, none⟩) zs.length c := by
    rcases hown.2 with ⟨_, h⟩ | ⟨b, c, _, h, _⟩
    · omega
    · exact ⟨b, c, h⟩
  obtain ⟨b, c, rfl⟩ := hv
  have hbg : b ≠ g := Nat.ne_of_lt (hne b rfl)
  have ck := hown.cells (g := b) rfl k (.int .i64 (zs.getD k 0)) (by
    simp only [ints, List.getElem?_map, List.getElem?_eq_getElem hk, Option.map_some]
    rw [List.getD_eq_getElem?_getD, List.getElem?_eq_getElem hk]
    rfl)
  have hadd : (⟨b, 0, none⟩ : Addr).add k = ⟨b, k, none⟩ := by unfold Addr.add; split <;> simp_all
  rw [hadd] at ck
  have hm : ∀ w, Calls Try.prog 8 #[.int .i64 (zs.getD k 0), .int .i64 n] w fun e w' => e = .returned (.int .i64 (zs.getD k 0 % n)) ∧ w = w' := fun w => mod_any _ n hn1 hn2 w
  have hx : nxt zs k n = zs.getD k 0 % n := if_pos hk
  have hs : stp zs k = k + 1 := if_pos hk
  have hwk : IntKind.i64.wrap (k : Int) = (k : Int) := IntWalk.i64_in _ (by omega)
  have k0 : (0 : Int) ≤ (k : Int) := by omega
  have k1 : (k : Int) < (zs.length : Int) := by omega
  have HX := Lib.hid hx
  have HS := Lib.hid hs
  have HD := Lib.hid hstep
  have HM := Lib.hid hm
  clear hx hs hstep hm hg hown hadd hne hk
  generalize zs.getD k 0 = z at *
  generalize zs.length = L at *
  go_enter Try.func17, Try.ntmps17
  go_wp2_with fail
  refine Plan.start (fun w' => w' = w.drew) [(0, true), (1, true), (2, true), (3, true), (4, true), (5, true), (6, true), (7, true), (8, true), (9, true)] (by kernel_rfl) (by kernel_rfl) (by kernel_rfl) (by kernel_rfl) rfl ?_
  simp only [List.map_cons, List.map_nil, List.getElem?_toArray, List.getElem?_cons_zero, List.getElem?_cons_succ]
  repeat (first | (refine Plan.take ?_ (by rfl) ?_ ?_; rotate_left; (· rintro w9 rfl; go_simp; (try rw [if_neg (by omega)]); all_goals (with_reducible rfl)); simp only [Act.put, List.setIfInBounds_toArray, List.set_cons_zero, List.set_cons_succ]) | (refine Plan.pass (by rfl) ?_; simp only [Act.put, List.setIfInBounds_toArray, List.set_cons_zero, List.set_cons_succ]))
  refine Plan.ends ?_
  go_wp2_with fail
  have d0 : (w.setCell ⟨g, 1, none⟩ (.int .i64 ((k : Int) + 1))).drew.cell? ⟨g, 0, none⟩ = some (.slice (some ⟨b, 0, none⟩) L c) := (World.cell?_setCell_other _ _ _ _ (by simp)).trans c0
  have d1 : (w.setCell ⟨g, 1, none⟩ (.int .i64 ((k : Int) + 1))).drew.cell? ⟨g, 1, none⟩ = some (.int .i64 ((k : Int) + 1)) := World.cell?_setCell_same _ _ _ c1
  have dk : (w.setCell ⟨g, 1, none⟩ (.int .i64 ((k : Int) + 1))).drew.cell? ⟨b, k, none⟩ = some (.int .i64 z) := (World.cell?_setCell_other _ _ _ _ (by intro h; cases h; exact hbg rfl)).trans ck
  have e1 : w.grownBy (w.setCell ⟨g, 1, none⟩ (.int .i64 ((k : Int) + 1))).drew (some g) := grownBy_trans (grownBy_step w g _) (grownBy_drew _ _)
  have e2 : (w.setCell ⟨g, 1, none⟩ (.int .i64 ((k : Int) + 1))).drew.heap.size = w.heap.size := by simp [World.setCell, World.drew]
  have e3 : Dice (w.setCell ⟨g, 1, none⟩ (.int .i64 ((k : Int) + 1))).drew base g zs (k + 1) := by
    have h := HD.out
    rw [show ((k + 1 : Nat) : Int) = (k : Int) + 1 by omega] at h
    exact h
  generalize (w.setCell ⟨g, 1, none⟩ (.int .i64 ((k : Int) + 1))).drew = W at d0 d1 dk e1 e2 e3 ⊢
  have E3 := Lib.hid e3
  have E2 := Lib.hid e2
  clear e2 e3 c0 c1 ck HD
  refine Plan.start (fun w' => w' = W.drew) [(0, true), (1, true), (2, true), (3, true), (4, true), (5, true), (6, true), (7, true), (8, true), (9, true), (10, true), (11, true), (12, false), (13, true)] (by kernel_rfl) (by kernel_rfl) (by kernel_rfl) (by kernel_rfl) rfl ?_
  simp only [List.map_cons, List.map_nil, List.getElem?_toArray, List.getElem?_cons_zero, List.getElem?_cons_succ]
  repeat (first | (refine Plan.take ?_ (by rfl) ?_ ?_; rotate_left; (· rintro w9 rfl; go_simp; (try rw [if_neg (by omega)]); all_goals (with_reducible rfl)); simp only [Act.put, List.setIfInBounds_toArray, List.set_cons_zero, List.set_cons_succ]) | (refine Plan.pass (by rfl) ?_; simp only [Act.put, List.setIfInBounds_toArray, List.set_cons_zero, List.set_cons_succ]))
  refine Plan.call (by rfl) 8 _ ?_ (HM.out _) ?_
  · go_simp
  rintro e w1 ⟨rfl, rfl⟩
  refine ⟨_, rfl, rfl, ?_⟩
  simp only [Act.put, List.setIfInBounds_toArray, List.set_cons_zero, List.set_cons_succ]
  repeat (first | (refine Plan.take ?_ (by rfl) ?_ ?_; rotate_left; (· rintro w9 rfl; go_simp; (try rw [if_neg (by omega)]); all_goals (with_reducible rfl)); simp only [Act.put, List.setIfInBounds_toArray, List.set_cons_zero, List.set_cons_succ]) | (refine Plan.pass (by rfl) ?_; simp only [Act.put, List.setIfInBounds_toArray, List.set_cons_zero, List.set_cons_succ]))
  refine Plan.ends ?_
  go_wp2
  go_ret
  exact ⟨ret_i64 HX.out.symm, by rw [HS.out]; exact dice_drew E3.out, grownBy_trans e1 (grownBy_drew _ _), E2.out⟩
/-- Next, for any dice of at most 100000 numbers -/
theorem next_any (w : World) (base g : Nat) (zs : List Int) (k : Nat) (n : Int) (hd : Dice w base g zs k) (hl : zs.length ≤ 100000) (hn1 : 1 ≤ n) (hn2 : n ≤ 4611686018427387904) :
    Calls Try.prog 17 #[.pointer (some ⟨g, 0, none⟩), .int .i64 n] w (NextPost w base g zs k n) := by
  by_cases hk : k < zs.length
  · exact next_more w base g zs k n hd hk hl hn1 hn2
  · exact next_end w base g zs k n hd (by omega)
end Go.Proofs.Ythhggiifbldaeaa

/- The walk of the maker's Small: a small configuration, for any dice. -/
namespace Go.Proofs.Ythhggiifbldaeaa
open Go.RowKit Plan LayMath

/-- the numbers of a small configuration -/
def smS (zs : List Int) (k : Nat) : Int := 3 + nxt zs k 4
def smB (zs : List Int) (k : Nat) : Int := 1 + nxt zs (stp zs k) 6
def smQ (zs : List Int) (k : Nat) : Int := 1 + nxt zs (stp zs (stp zs k)) 3
def smD (zs : List Int) (k : Nat) : Int := 1 + nxt zs (stp zs (stp zs (stp zs k))) 3
def smH (zs : List Int) (k : Nat) : Int := 1 + nxt zs (stp zs (stp zs (stp zs (stp zs k)))) 3
def smK5 (zs : List Int) (k : Nat) : Nat := stp zs (stp zs (stp zs (stp zs (stp zs k))))
def smT (zs : List Int) (k : Nat) : Int := nxt zs (smK5 zs k) 3
def smZ (zs : List Int) (k : Nat) : Int := 2 * slotN (smS zs k) (smB zs k) + 6 + smT zs k
def smK (zs : List Int) (k : Nat) : Nat := stp zs (smK5 zs k)
theorem small_range (zs : List Int) (k : Nat) : (3 ≤ smS zs k ∧ smS zs k ≤ 6) ∧ (1 ≤ smB zs k ∧ smB zs k ≤ 6) ∧ (1 ≤ smQ zs k ∧ smQ zs k ≤ 3) ∧ (1 ≤ smD zs k ∧ smD zs k ≤ 3) ∧ (1 ≤ smH zs k ∧ smH zs k ≤ 3) ∧ (0 ≤ smT zs k ∧ smT zs k ≤ 2) := by
  have h1 := nxt_range zs k 4 (by decide)
  have h2 := nxt_range zs (stp zs k) 6 (by decide)
  have h3 := nxt_range zs (stp zs (stp zs k)) 3 (by decide)
  have h4 := nxt_range zs (stp zs (stp zs (stp zs k))) 3 (by decide)
  have h5 := nxt_range zs (stp zs (stp zs (stp zs (stp zs k)))) 3 (by decide)
  have h6 := nxt_range zs (smK5 zs k) 3 (by decide)
  unfold smS smB smQ smD smH smT
  omega
theorem sm_dice_alloc {w : World} {base g : Nat} {zs : List Int} {k : Nat} (h : Dice w base g zs k) (o : Obj) : Dice (w.alloc o) base g zs k := dice_on h ((Below.refl _ _).alloc (Nat.le_refl _) o) (Nat.le_refl _)
theorem sm_row_grown {a b : World} {g x : Nat} {o : Obj} (h : a.grownBy b (some g)) (hx : a.heap[x]? = some o) (hne : x ≠ g) : b.heap[x]? = some o :=
  (h.block x (Array.getElem?_eq_some_iff.1 hx).1 (fun e => hne (Option.some.inj e))).trans hx
theorem sm_grown_row {a b : World} {r : Option Nat} (h : a.grownBy b r) {x : Nat} (hx : a.heap.size ≤ x) (cs : Array Value) : a.grownBy (b.setRow x cs) r :=
  ⟨h.os, h.tape, h.output, Nat.le_trans h.size (Nat.le_of_eq (by simp [World.setRow])), fun i hi hr => (setRow_other b x i cs (by omega)).trans (h.block i hi hr)⟩
theorem sm_grown_cell {a b : World} {r : Option Nat} (h : a.grownBy b r) {p : Addr} (hx : a.heap.size ≤ p.block) (u : Value) : a.grownBy (b.setCell p u) r :=
  ⟨h.os, h.tape, h.output, Nat.le_trans h.size (Nat.le_of_eq (by simp [World.setCell])), fun i hi hr => (Below.heap_setCell b p u i (by omega)).trans (h.block i hi hr)⟩
theorem sm_setRow (w : World) (x : Nat) (cs : Array Value) : w.grownBy (w.setRow x cs) (some x) :=
  ⟨rfl, rfl, rfl, Nat.le_of_eq (by simp [World.setRow]), fun i _ hne => setRow_other w x i cs (fun e => hne (by rw [e]))⟩
theorem sm_setCell (w : World) (p : Addr) (u : Value) : w.grownBy (w.setCell p u) (some p.block) :=
  ⟨rfl, rfl, rfl, Nat.le_of_eq (by simp [World.setCell]), fun i _ hne => Below.heap_setCell w p u i (fun e => hne (by rw [e]))⟩
theorem sm_alloc {a b : World} {r : Option Nat} (h : a.grownBy b r) (o : Obj) : a.grownBy (b.alloc o) r :=
  ⟨h.os, h.tape, h.output, Nat.le_trans h.size (by simp), fun i hi hr => (Below.heap_alloc _ _ _ (Nat.lt_of_lt_of_le hi h.size)).trans (h.block i hi hr)⟩
theorem small_wrap {s b t : Int} (s1 : 3 ≤ s) (s2 : s ≤ 6) (b1 : 1 ≤ b) (b2 : b ≤ 6) (t1 : 0 ≤ t) (t2 : t ≤ 2) :
    IntKind.i64.wrap (IntKind.i64.wrap (IntKind.i64.wrap (2 * IntKind.i64.wrap ((IntKind.i64.wrap (IntKind.i64.wrap (IntKind.i64.wrap (b + 2) + s) - 1)).tdiv s)) + 6) + t) = 2 * slotN s b + 6 + t := by
  obtain ⟨l1, l2⟩ := slot_bounds s1 (show s ≤ 64 by omega) b1 (show b ≤ 128 by omega)
  rw [IntWalk.i64_in (b + 2) (by omega), IntWalk.i64_in (b + 2 + s) (by omega), IntWalk.i64_in (b + 2 + s - 1) (by omega)]
  rw [Int.tdiv_eq_ediv_of_nonneg (by omega), show (b + 2 + s - 1) / s = slotN s b from rfl]
  generalize slotN s b = n at *
  rw [IntWalk.i64_in n (by omega), IntWalk.i64_in (2 * n) (by omega), IntWalk.i64_in (2 * n + 6) (by omega), IntWalk.i64_in (2 * n + 6 + t) (by omega)]
def SmallPost (w : World) (base g : Nat) (zs : List Int) (k : Nat) (e : Ending) (w' : World) : Prop :=
  e = .returned (confV (smZ zs k) (smS zs k) (smB zs k) (smQ zs k) (smD zs k) (smH zs k)) ∧ Dice w' base g zs (smK zs k) ∧ w.grownBy w' (some g)
set_option maxHeartbeats 2000000 in
set_option maxRecDepth 20000 in
theorem small_any (w : World) (base g : Nat) (zs : List Int) (k : Nat) (hd : Dice w base g zs k) (hl : zs.length ≤ 100000) :
    Calls Try.prog 15 #[.pointer (some ⟨g, 0, none⟩)] w (SmallPost w base g zs k) := by
  have hg := dice_lt hd
  have hn0 : ∀ W, Dice W base g zs k → Calls Try.prog 17 #[.pointer (some ⟨g, 0, none⟩), .int .i64 4] W (NextPost W base g zs k 4) := fun W h => next_any W base g zs _ 4 h hl (by decide) (by decide)
  have hn1 : ∀ W, Dice W base g zs (stp zs k) → Calls Try.prog 17 #[.pointer (some ⟨g, 0, none⟩), .int .i64 6] W (NextPost W base g zs (stp zs k) 6) := fun W h => next_any W base g zs _ 6 h hl (by decide) (by decide)
  have hn2 : ∀ W, Dice W base g zs (stp zs (stp zs k)) → Calls Try.prog 17 #[.pointer (some ⟨g, 0, none⟩), .int .i64 3] W (NextPost W base g zs (stp zs (stp zs k)) 3) := fun W h => next_any W base g zs _ 3 h hl (by decide) (by decide)
  have hn3 : ∀ W, Dice W base g zs (stp zs (stp zs (stp zs k))) → Calls Try.prog 17 #[.pointer (some ⟨g, 0, none⟩), .int .i64 3] W (NextPost W base g zs (stp zs (stp zs (stp zs k))) 3) := fun W h => next_any W base g zs _ 3 h hl (by decide) (by decide)
  have hn4 : ∀ W, Dice W base g zs (stp zs (stp zs (stp zs (stp zs k)))) → Calls Try.prog 17 #[.pointer (some ⟨g, 0, none⟩), .int .i64 3] W (NextPost W base g zs (stp zs (stp zs (stp zs (stp zs k)))) 3) := fun W h => next_any W base g zs _ 3 h hl (by decide) (by decide)
  have hn5 : ∀ W, Dice W base g zs (stp zs (stp zs (stp zs (stp zs (stp zs k))))) → Calls Try.prog 17 #[.pointer (some ⟨g, 0, none⟩), .int .i64 3] W (NextPost W base g zs (stp zs (stp zs (stp zs (stp zs (stp zs k))))) 3) := fun W h => next_any W base g zs _ 3 h hl (by decide) (by decide)
  obtain ⟨⟨s1, s2⟩, ⟨b1, b2⟩, ⟨q1, q2⟩, ⟨d1, d2⟩, ⟨h1, h2⟩, ⟨t1, t2⟩⟩ := small_range zs k
  obtain ⟨l1, l2⟩ := slot_bounds (s := smS zs k) (b := smB zs k) (by omega) (by omega) (by omega) (by omega)
  unfold SmallPost smZ confV smK
  have es : 3 + nxt zs k 4 = smS zs k := rfl
  have eb : 1 + nxt zs (stp zs k) 6 = smB zs k := rfl
  have eq' : 1 + nxt zs (stp zs (stp zs k)) 3 = smQ zs k := rfl
  have ed : 1 + nxt zs (stp zs (stp zs (stp zs k))) 3 = smD zs k := rfl
  have eh : 1 + nxt zs (stp zs (stp zs (stp zs (stp zs k)))) 3 = smH zs k := rfl
  have et : nxt zs (smK5 zs k) 3 = smT zs k := rfl
  unfold smK5 at et
  unfold smK5
  unfold NextPost at hn0 hn1 hn2 hn3 hn4 hn5
  rw [et] at hn5
  generalize nxt zs k 4 = N0 at *
  generalize nxt zs (stp zs k) 6 = N1 at *
  generalize nxt zs (stp zs (stp zs k)) 3 = N2 at *
  generalize nxt zs (stp zs (stp zs (stp zs k))) 3 = N3 at *
  generalize nxt zs (stp zs (stp zs (stp zs (stp zs k)))) 3 = N4 at *
  generalize smS zs k = s at *
  generalize smB zs k = b at *
  generalize smQ zs k = q at *
  generalize smD zs k = d at *
  generalize smH zs k = h at *
  generalize smT zs k = t at *
  have N0H := Lib.hid hn0
  have N1H := Lib.hid hn1
  have N2H := Lib.hid hn2
  have N3H := Lib.hid hn3
  have N4H := Lib.hid hn4
  have N5H := Lib.hid hn5
  clear hn0 hn1 hn2 hn3 hn4 hn5 et
  have hq0 := heap_alloc_new w (confRow 0 0 0 0 0 0)
  have G0 : w.grownBy (w.alloc (confRow 0 0 0 0 0 0)) (some g) := sm_alloc ⟨rfl, rfl, rfl, Nat.le_refl _, fun _ _ _ => rfl⟩ _
  have hd0 := sm_dice_alloc hd (confRow 0 0 0 0 0 0)
  have hz0 : (w.alloc (confRow 0 0 0 0 0 0)).heap.size = w.heap.size + 1 := World.size_alloc _ _
  have hgw : w.heap.size ≠ g := by omega
  clear hd
  go_enter Try.func15, Try.ntmps15
  generalize hw0 : w.alloc (confRow 0 0 0 0 0 0) = w0 at *
  go_wp2_with (first
    | (go_at_call 17; ((with_reducible refine (N0H.out _ hd0).mono ?_); rintro e w1 ⟨rfl, hd1, hg1, hs1⟩; have hq1 := sm_row_grown hg1 hq0 hgw; have G1 := grownBy_trans G0 hg1))
    | (go_at_call 17; ((with_reducible refine (N1H.out _ hd1).mono ?_); rintro e w2 ⟨rfl, hd2, hg2, hs2⟩; have hq2 := sm_row_grown hg2 hq1 hgw; have G2 := grownBy_trans G1 hg2))
    | (go_at_call 17; ((with_reducible refine (N2H.out _ hd2).mono ?_); rintro e w3 ⟨rfl, hd3, hg3, hs3⟩; have hq3 := sm_row_grown hg3 hq2 hgw; have G3 := grownBy_trans G2 hg3))
    | (go_at_call 17; ((with_reducible refine (N3H.out _ hd3).mono ?_); rintro e w4 ⟨rfl, hd4, hg4, hs4⟩; have hq4 := sm_row_grown hg4 hq3 hgw; have G4 := grownBy_trans G3 hg4))
    | (go_at_call 17; ((with_reducible refine (N4H.out _ hd4).mono ?_); rintro e w5 ⟨rfl, hd5, hg5, hs5⟩; have hq5 := sm_row_grown hg5 hq4 hgw; have G5 := grownBy_trans G4 hg5)))
  have hX : w5.heap.size = w.heap.size + 1 := by omega
  have hrow : (w5.alloc (confRow 0 s b q d h)).drew.heap[w.heap.size + 1]? = some (confRow 0 s b q d h) := by
    have := heap_alloc_new w5 (confRow 0 s b q d h)
    rw [hX] at this
    exact this
  have hq6 : (w5.alloc (confRow 0 s b q d h)).drew.heap[w.heap.size]? = some (confRow 0 0 0 0 0 0) := lay_al hq5 _
  have hd6 : Dice (w5.alloc (confRow 0 s b q d h)).drew base g zs (stp zs (stp zs (stp zs (stp zs (stp zs k))))) := dice_drew (sm_dice_alloc hd5 _)
  have G6 : w.grownBy (w5.alloc (confRow 0 s b q d h)).drew (some g) := grownBy_trans (sm_alloc G5 _) (grownBy_drew _ _)
  have hXg : w.heap.size + 1 ≠ g := by omega
  have hXw : w.heap.size + 1 ≠ w.heap.size := by omega
  have hXl : w.heap.size ≤ w.heap.size + 1 := by omega
  have hV0 : ∀ (v : Value), (#[(.int .i64 0 : Value), .int .i64 s, .int .i64 b, .int .i64 q, .int .i64 d, .int .i64 h] : Array Value).setIfInBounds 0 v = #[v, .int .i64 s, .int .i64 b, .int .i64 q, .int .i64 d, .int .i64 h] := fun v => rfl
  generalize w.heap.size + 1 = X at *
  obtain ⟨-, c1, c2, -⟩ := conf6 hrow
  clear hd5 hq5 G5 hd4 hd3 hd2 hd1 hd0 hq4 hq3 hq2 hq1 hq0 G4 G3 G2 G1 G0 hg1 hg2 hg3 hg4 hg5 hs1 hs2 hs3 hs4 hs5 hX hz0 es eb eq' ed eh
  refine Last.start (fun W => W.cell? ⟨X, 1, none⟩ = some (.int .i64 s) ∧ W.cell? ⟨X, 2, none⟩ = some (.int .i64 b)) [(0, true), (1, true), (2, true), (3, true), (4, true), (5, true), (6, true), (7, true), (8, true), (9, true), (10, true), (11, true), (12, true), (13, false), (14, true), (15, true), (16, false)] (by kernel_rfl) (by kernel_rfl) (by kernel_rfl) (by kernel_rfl) ⟨c1, c2⟩ ?_
  simp only [List.map_cons, List.map_nil, List.getElem?_toArray, List.getElem?_cons_zero, List.getElem?_cons_succ]
  have hLV : b + 2 + s - 1 = b + 2 + s - 1 := rfl
  generalize (w5.alloc (confRow 0 s b q d h)).drew = W at *
  repeat (first | (refine Last.take ?_ (by rfl) ?_ ?_; rotate_left; (· rintro w9 ⟨u0, u1⟩; go_simp; (try rw [if_neg (by omega)]); all_goals (with_reducible rfl)); simp only [Act.put, List.setIfInBounds_toArray, List.set_cons_zero, List.set_cons_succ]))
  refine Last.call (by rfl) 17 _ ?_ (N5H.out _ hd6) ?_
  · go_simp
  rintro e w6 ⟨rfl, hd7, hg7, hs7⟩
  have hrow7 := sm_row_grown hg7 hrow hXg
  have hq7 := sm_row_grown hg7 hq6 hgw
  have G7 := grownBy_trans G6 hg7
  obtain ⟨c0, c3, c4, -⟩ := conf6 hrow7
  refine ⟨_, rfl, ⟨c3, c4⟩, ?_⟩
  simp only [Act.put, List.setIfInBounds_toArray, List.set_cons_zero, List.set_cons_succ]
  repeat (first | (refine Last.take ?_ (by rfl) ?_ ?_; rotate_left; (· rintro w9 ⟨u0, u1⟩; go_simp; (try rw [if_neg (by omega)]); all_goals (with_reducible rfl)); simp only [Act.put, List.setIfInBounds_toArray, List.set_cons_zero, List.set_cons_succ]))
  refine Last.last (by rfl) ?_
  have f0 : w6.frozen? ⟨X, 0, none⟩ = false := by simp [World.frozen?, hrow7]
  go_simp
  rw [small_wrap s1 s2 b1 b2 t1 t2]
  have hrow9 := setRow_heap w6 X _ #[.int .i64 (2 * slotN s b + 6 + t), .int .i64 s, .int .i64 b, .int .i64 q, .int .i64 d, .int .i64 h] _ _ hrow7
  have e9 := setCell_eq_setRow w6 X 0 _ _ _ (.int .i64 (2 * slotN s b + 6 + t)) hrow7
  rw [hV0] at e9
  rw [e9]
  have hq9 := (setRow_other w6 X w.heap.size #[.int .i64 (2 * slotN s b + 6 + t), .int .i64 s, .int .i64 b, .int .i64 q, .int .i64 d, .int .i64 h] (fun e => hXw e.symm)).trans hq7
  have G9 := sm_grown_row G7 hXl #[.int .i64 (2 * slotN s b + 6 + t), .int .i64 s, .int .i64 b, .int .i64 q, .int .i64 d, .int .i64 h]
  have hd9 := dice_far hd7 (sm_setRow w6 X #[.int .i64 (2 * slotN s b + 6 + t), .int .i64 s, .int .i64 b, .int .i64 q, .int .i64 d, .int .i64 h]) (by omega)
  generalize hzz : 2 * slotN s b + 6 + t = z at *
  have HZZ := Lib.hid hzz
  clear hzz
  generalize w6.setRow X #[.int .i64 z, .int .i64 s, .int .i64 b, .int .i64 q, .int .i64 d, .int .i64 h] = w9 at *
  clear c0 c3 c4 f0 c1 c2 hrow7 hq7 G7 hd7 hg7 hs7 hrow hq6 hd6 G6 hV0 e9
  go_wp2_with (first
    | ((with_reducible refine Plan.load_lit 26 (.tmp 3) X ?_ hrow9 Try.underlying26 ?_ ?_ ?_); (· rfl); (· rfl); (· exact conf_info); simp only [Act.put, List.setIfInBounds_toArray, List.set_cons_zero, List.set_cons_succ])
    | ((with_reducible refine Plan.store_lit 26 (.tmp 2) _ w.heap.size ?_ hq9 ?_ ?_ ?_ ?_ ?_ ?_); rotate_left; (· rfl); (· rfl); (· exact conf_info); (· rfl); (· simp [Value.oneCell']); simp only [Act.put]))
  exact bodyPost_ret (results_cell_row rfl _ _ _ _ _ _ _ rfl (setRow_heap _ _ _ _ _ _ hq9) Try.underlying26 rfl conf_info) rfl ⟨by rw [HZZ.out], dice_far hd9 (sm_setRow _ _ _) hg, sm_grown_row G9 (Nat.le_refl _) _⟩
end Go.Proofs.Ythhggiifbldaeaa

/- A small configuration is possible. -/
namespace Go.Proofs.Ythhggiifbldaeaa
open Go.RowKit Plan LayMath
/-- a small configuration is possible -/
theorem small_conf (zs : List Int) (k : Nat) : ∃ (n : Nat) (X R : Int), (1 ≤ n ∧ n ≤ 3) ∧ (6 ≤ X ∧ X ≤ 8) ∧ (6 ≤ R ∧ R ≤ 25) ∧ smZ zs k = 2 * (n : Int) + X ∧ slotN (smS zs k) (smB zs k) = (n : Int) ∧
    smB zs k + 2 ≤ (n : Int) * smS zs k ∧ (X - 3) * (smS zs k - 1) = R ∧ errN (smZ zs k) (smS zs k) (smB zs k) (smQ zs k) (smD zs k) (smH zs k) = 0 ∧
    layV (smZ zs k) (smS zs k) (smB zs k) (smQ zs k) = .agg #[.int .i64 (n : Int), .int .i64 (2 * (n : Int)), .int .i64 X, .int .i64 (R - smQ zs k - 1)] := by
  obtain ⟨⟨s1, s2⟩, ⟨b1, b2⟩, ⟨q1, q2⟩, ⟨d1, d2⟩, ⟨h1, h2⟩, ⟨t1, t2⟩⟩ := small_range zs k
  unfold smZ
  generalize smS zs k = s at *
  generalize smB zs k = b at *
  generalize smQ zs k = q at *
  generalize smD zs k = d at *
  generalize smH zs k = h at *
  generalize smT zs k = t at *
  obtain ⟨l1, -⟩ := slot_bounds s1 (show s ≤ 64 by omega) b1 (show b ≤ 128 by omega)
  have l2 : slotN s b < 4 := by unfold slotN; exact (Int.ediv_lt_iff_lt_mul (by omega)).2 (by omega)
  have l3 := slot_room (b := b) s1
  have hd : dataN (2 * slotN s b + 6 + t) s b = 6 + t := by unfold dataN; omega
  have hR : 6 ≤ (6 + t - 3) * (s - 1) ∧ (6 + t - 3) * (s - 1) ≤ 25 := by
    have h1 : (6 + t - 3) * (s - 1) ≤ 5 * (s - 1) := Int.mul_le_mul_of_nonneg_right (by omega) (by omega)
    have h2 : 3 * (s - 1) ≤ (6 + t - 3) * (s - 1) := Int.mul_le_mul_of_nonneg_right (by omega) (by omega)
    omega
  have hc : capN (2 * slotN s b + 6 + t) s b q = (6 + t - 3) * (s - 1) - q - 1 := by unfold capN; rw [hd]
  have hi : inR (2 * slotN s b + 6 + t) s b q d h = true := inR_iff.2 (by omega)
  have hf : fits (2 * slotN s b + 6 + t) s b q = true := by
    unfold fits
    rw [hd, hc]
    simp
    omega
  have he := errN_fit hi hf
  refine ⟨(slotN s b).toNat, 6 + t, _, ⟨by omega, by omega⟩, ⟨by omega, by omega⟩, hR, ?_, ?_, ?_, rfl, he, ?_⟩
  · rw [Int.toNat_of_nonneg (by omega)]; omega
  · rw [Int.toNat_of_nonneg (by omega)]
  · rw [Int.toNat_of_nonneg (by omega)]; exact l3
  · unfold layV
    rw [Int.toNat_of_nonneg (by omega), hd, hc]
end Go.Proofs.Ythhggiifbldaeaa

/- The walks of Pad: the program's, by the library's Repeat and Join, and the document's own, for any bytes and a length of at most 2^31 - 1. -/
namespace Go.Proofs.Ythhggiifbldaeaa
open Go.RowKit

/-- bytes 0 behind l, n bytes in all -/
def padL (l : List UInt8) (n : Nat) : List UInt8 := l ++ List.replicate (n - l.length) 0
theorem size_list (s : ByteArray) : s.data.toList.length = s.size := by simp
theorem padL_same (s : ByteArray) (n : Nat) (h : n ≤ s.size) : (⟨(padL s.data.toList n).toArray⟩ : ByteArray) = s := by
  rw [padL, size_list, Nat.sub_eq_zero_of_le h]; simp
theorem zeros_size (c : Nat) : (⟨(List.replicate c (0 : UInt8)).toArray⟩ : ByteArray).size = c := by
  show (List.replicate c (0 : UInt8)).toArray.size = c
  simp
theorem refPad_more (s : ByteArray) (n : Nat) (w : World) (hs : s.size < n) (hn : n ≤ 2147483647) :
    Calls Try.prog 51 #[.string s, .int .i64 n] w fun e w' => e = .returned (.string ⟨(padL s.data.toList n).toArray⟩) ∧ Below w.heap.size w w' := by
  have hmk : ∀ w, (Instr.makeSlice 117 (.int .i64 ((n : Int) - s.size)) (.int .i64 ((n : Int) - s.size))).run Try.prog w = .ok (.slice (some ⟨w.heap.size, 0, none⟩) (n - s.size) (n - s.size)) (w.alloc (.cells (madeCells #[.int .u8 0] (n - s.size)) 5)) := fun w => by
    have e : ((n : Int) - s.size) = ((n - s.size : Nat) : Int) := by omega
    rw [e]
    exact run_make_row' (P := Try.prog) 117 5 (.int .u8 0) 1 Try.underlying117 info_byte rfl .i64 .i64 (n - s.size) (by omega) (by omega) w
  have hcv : ∀ w : World, (convert 117 9 (.slice (some ⟨w.heap.size, 0, none⟩) (n - s.size) (n - s.size))).run Try.prog (w.alloc (.cells (madeCells #[.int .u8 0] (n - s.size)) 5)) = .ok (.string ⟨(List.replicate (n - s.size) (0 : UInt8)).toArray⟩) (w.alloc (.cells (madeCells #[.int .u8 0] (n - s.size)) 5)) := fun w => by
    have h1 := run_convert_bytes_back (P := Try.prog) (w.alloc (.cells (madeCells #[.int .u8 0] (n - s.size)) 5)) 117 9 5 ⟨w.heap.size, 0, none⟩ (n - s.size) (List.replicate (n - s.size) 0) Try.underlying117 Try.underlying5 Try.underlying9 (fun j hj => by
      have hj' : j < n - s.size := by simpa using hj
      have e : (⟨w.heap.size, 0, none⟩ : Addr).add j = ⟨w.heap.size, j, none⟩ := by unfold Addr.add; split <;> simp_all
      rw [e, (World.rowIs_made w (.int .u8 0) (n - s.size) 5).cell hj']
      simp)
    rwa [List.length_replicate] at h1
  have he : (⟨(padL s.data.toList n).toArray⟩ : ByteArray) = s ++ (⟨(List.replicate (n - s.size) (0 : UInt8)).toArray⟩ : ByteArray) := by
    rw [padL, size_list]
    apply ByteArray.ext
    simp
  rw [he]
  clear he
  have hz := zeros_size (n - s.size)
  generalize (⟨(List.replicate (n - s.size) (0 : UInt8)).toArray⟩ : ByteArray) = Z at hcv hz ⊢
  have hsum : s.size + Z.size ≤ 9223372036854775807 := by omega
  clear hz
  go_enter Try.func51, Try.ntmps51
  go_wp2
  go_ret
  exact ⟨rfl, (Below.refl _ _).alloc (Nat.le_refl _) _⟩
theorem refPad_same (s : ByteArray) (n : Nat) (w : World) (h : n ≤ s.size) :
    Calls Try.prog 51 #[.string s, .int .i64 n] w fun e w' => e = .returned (.string s) ∧ Below w.heap.size w w' := by
  go_enter Try.func51, Try.ntmps51
  go_wp2
  go_ret
  exact ⟨rfl, Below.refl _ _⟩
theorem refPad_any (s : ByteArray) (n : Nat) (w : World) (hn : n ≤ 2147483647) :
    Calls Try.prog 51 #[.string s, .int .i64 n] w fun e w' => e = .returned (.string ⟨(padL s.data.toList n).toArray⟩) ∧ Below w.heap.size w w' := by
  by_cases h : n ≤ s.size
  · rw [padL_same s n h]; exact refPad_same s n w h
  · exact refPad_more s n w (by omega) hn
end Go.Proofs.Ythhggiifbldaeaa

/- The walks of the small functions of the record: within, mayHold, put, get, number, at, and both Checks, for any record. -/
namespace Go.Proofs.Ythhggiifbldaeaa
open Go.RowKit

def wit (n g : Int) : Bool := decide (0 ≤ n) && decide (n ≤ g)
def hold (k l : Int) : Bool := if k = 1 then (l == 16) else if k = 2 then (l == 0) else decide (l ≤ 20)

theorem ret_bool {x y : Bool} (h : x = y) : Ending.returned (.bool x) = .returned (.bool y) := by rw [h]
theorem number_any (n size : Int) (w : World) :
    Calls Try.prog 50 #[.int .i64 n, .int .i64 size] w fun e w' => e = .returned (.string ⟨(CodecMath.putL n size).toArray⟩) ∧ Below w.heap.size w w' := by
  have h := refPut_any n size
  generalize (⟨(CodecMath.putL n size).toArray⟩ : ByteArray) = X at h ⊢
  generalize CodecMath.putE n size = E at h
  have H := Lib.hid h
  clear h
  go_enter Try.func50, Try.ntmps50
  go_wp2_with (go_at_call 60; ((with_reducible refine (H.out _).mono ?_); rintro e w1 ⟨rfl, hb1⟩))
  go_ret
  exact ⟨rfl, hb1⟩
/-- a record's fields, as the model has them -/
def mk (k b v m : Int) (p : ByteArray) : RecMath.Rec := ⟨k, b, v, m, p.data.toList⟩
theorem mk_len (k b v m : Int) (p : ByteArray) : (mk k b v m p).payload.length = p.size := size_list p
theorem ret_i {a b : Int} (h : a = b) : Ending.returned (.int .i64 a) = .returned (.int .i64 b) := by rw [h]
theorem check_eq (k b v m : Int) (p : ByteArray) : RecMath.checkE (mk k b v m p) =
    if k < 1 ∨ 6 < k then 3
    else if b < 0 ∨ 4294967295 < b ∨ v < 0 ∨ 1099511627776 < v ∨ m < 0 ∨ 255 < m then 1
    else if 20 < p.size ∨ (k = 1 ∧ p.size ≠ 16) ∨ (k = 2 ∧ p.size ≠ 0) then 2
    else 0 := by
  have h : RecMath.checkE (mk k b v m p) =
    if k < 1 ∨ 6 < k then 3
    else if b < 0 ∨ 4294967295 < b ∨ v < 0 ∨ 1099511627776 < v ∨ m < 0 ∨ 255 < m then 1
    else if 20 < p.data.toList.length ∨ (k = 1 ∧ p.data.toList.length ≠ 16) ∨ (k = 2 ∧ p.data.toList.length ≠ 0) then 2
    else 0 := rfl
  rw [h]
  simp only [size_list]
theorem check_form {k b v m : Int} {p : ByteArray} (h : k < 1 ∨ 6 < k) : RecMath.checkE (mk k b v m p) = 3 := by rw [check_eq, if_pos h]
theorem check_range {k b v m : Int} {p : ByteArray} (h : 1 ≤ k) (h6 : k ≤ 6) (h2 : (wit b 4294967295 && wit v 1099511627776 && wit m 255) = false) : RecMath.checkE (mk k b v m p) = 1 := by
  rw [check_eq, if_neg (by omega), if_pos]
  simp [wit] at h2
  omega
theorem check_size {k b v m : Int} {p : ByteArray} (h : 1 ≤ k) (h6 : k ≤ 6) (hb : wit b 4294967295 = true) (hv : wit v 1099511627776 = true) (hm : wit m 255 = true) :
    RecMath.checkE (mk k b v m p) = if hold k (p.size : Int) = true then 0 else 2 := by
  simp only [wit, Bool.and_eq_true, decide_eq_true_eq] at hb hv hm
  rw [check_eq, if_neg (by omega), if_neg (by omega)]
  unfold hold
  by_cases h1 : k = 1
  · subst h1
    rw [if_pos rfl]
    by_cases hp : p.size = 16
    · rw [if_neg (by omega), if_pos (by simp; omega)]
    · rw [if_pos (by omega), if_neg (by simp; omega)]
  · rw [if_neg h1]
    by_cases h2 : k = 2
    · subst h2
      rw [if_pos rfl]
      by_cases hp : p.size = 0
      · rw [if_neg (by omega), if_pos (by rw [hp]; rfl)]
      · rw [if_pos (by omega), if_neg (by intro hh; have := eq_of_beq hh; omega)]
    · rw [if_neg h2]
      by_cases hp : p.size ≤ 20
      · rw [if_neg (by omega), if_pos (by simp; omega)]
      · rw [if_pos (by omega), if_neg (by simp; omega)]

theorem bnot_false : Value.bool (!false) = .bool true := rfl
set_option maxHeartbeats 400000 in
theorem refCheck_any (k b v m : Int) (p : ByteArray) (w : World) :
    Calls Try.prog 49 #[.agg #[.int .i64 k, .int .i64 b, .int .i64 v, .int .i64 m, .string p]] w fun e w' => e = .returned (.int .i64 (RecMath.checkE (mk k b v m p))) ∧ Below w.heap.size w w' := by
  have E := check_eq k b v m p
  generalize RecMath.checkE (mk k b v m p) = X at E ⊢
  by_cases h1 : k < 1
  · rw [if_pos (by omega)] at E; have HE := Lib.hid E; clear E
    go_enter Try.func49, Try.ntmps49
    go_wp2
    go_ret
    exact ⟨ret_i HE.out.symm, (Below.refl _ _).alloc (Nat.le_refl _) _⟩
  have h1' : 1 ≤ k := by omega
  by_cases h2 : 6 < k
  · rw [if_pos (by omega)] at E; have HE := Lib.hid E; clear E h1
    go_enter Try.func49, Try.ntmps49
    go_wp2
    go_ret
    exact ⟨ret_i HE.out.symm, (Below.refl _ _).alloc (Nat.le_refl _) _⟩
  have d2 : decide (6 < k) = false := by simpa using h2
  rw [if_neg (by omega)] at E
  clear h1 h2
  by_cases h3 : b < 0
  · rw [if_pos (by omega)] at E; have HE := Lib.hid E; clear E
    go_enter Try.func49, Try.ntmps49
    go_wp2
    go_ret
    exact ⟨ret_i HE.out.symm, (Below.refl _ _).alloc (Nat.le_refl _) _⟩
  have d3 : decide (b < 0) = false := by simpa using h3
  have h3' : 0 ≤ b := by omega
  by_cases h4 : 4294967295 < b
  · rw [if_pos (by omega)] at E; have HE := Lib.hid E; clear E h3
    go_enter Try.func49, Try.ntmps49
    go_wp2
    go_ret
    exact ⟨ret_i HE.out.symm, (Below.refl _ _).alloc (Nat.le_refl _) _⟩
  have d4 : decide (4294967295 < b) = false := by simpa using h4
  by_cases h5 : v < 0
  · rw [if_pos (by omega)] at E; have HE := Lib.hid E; clear E h3 h4
    go_enter Try.func49, Try.ntmps49
    go_wp2
    go_ret
    exact ⟨ret_i HE.out.symm, (Below.refl _ _).alloc (Nat.le_refl _) _⟩
  have d5 : decide (v < 0) = false := by simpa using h5
  have h5' : 0 ≤ v := by omega
  by_cases h6 : 1099511627776 < v
  · rw [if_pos (by omega)] at E; have HE := Lib.hid E; clear E h3 h4 h5
    go_enter Try.func49, Try.ntmps49
    go_wp2
    go_ret
    exact ⟨ret_i HE.out.symm, (Below.refl _ _).alloc (Nat.le_refl _) _⟩
  have d6 : decide (1099511627776 < v) = false := by simpa using h6
  by_cases h7 : m < 0
  · rw [if_pos (by omega)] at E; have HE := Lib.hid E; clear E h3 h4 h5 h6
    go_enter Try.func49, Try.ntmps49
    go_wp2
    go_ret
    exact ⟨ret_i HE.out.symm, (Below.refl _ _).alloc (Nat.le_refl _) _⟩
  have d7 : decide (m < 0) = false := by simpa using h7
  have h7' : 0 ≤ m := by omega
  by_cases h8 : 255 < m
  · rw [if_pos (by omega)] at E; have HE := Lib.hid E; clear E h3 h4 h5 h6 h7
    go_enter Try.func49, Try.ntmps49
    go_wp2
    go_ret
    exact ⟨ret_i HE.out.symm, (Below.refl _ _).alloc (Nat.le_refl _) _⟩
  have d8 : decide (255 < m) = false := by simpa using h8
  rw [if_neg (by omega)] at E
  clear h3 h4 h5 h6 h7 h8
  by_cases h9 : 20 < p.size
  · rw [if_pos (by omega)] at E; have HE := Lib.hid E; clear E
    have d9 : (20 : Int) < (p.size : Int) := by omega
    go_enter Try.func49, Try.ntmps49
    go_wp2
    go_ret
    exact ⟨ret_i HE.out.symm, (Below.refl _ _).alloc (Nat.le_refl _) _⟩
  have d9 : decide ((20 : Int) < (p.size : Int)) = false := by simp; omega
  by_cases h10 : k = 1
  · subst h10
    by_cases h11 : p.size = 16
    · rw [if_neg (by omega)] at E; have HE := Lib.hid E; clear E h9
      have d11 : ((p.size : Int) != 16) = false := by rw [h11]; rfl
      clear h11
      go_enter Try.func49, Try.ntmps49
      go_wp2
      go_ret
      exact ⟨ret_i HE.out.symm, (Below.refl _ _).alloc (Nat.le_refl _) _⟩
    · rw [if_pos (by omega)] at E; have HE := Lib.hid E; clear E h9
      have d11 : ((p.size : Int) != 16) = true := by simp; omega
      clear h11
      go_enter Try.func49, Try.ntmps49
      go_wp2
      go_ret
      exact ⟨ret_i HE.out.symm, (Below.refl _ _).alloc (Nat.le_refl _) _⟩
  · have d10 : (k == 1) = false := by simpa using h10
    by_cases h12 : k = 2
    · subst h12
      by_cases h13 : p.size = 0
      · have hpe : p = ⟨#[]⟩ := ByteArray.ext (Array.eq_empty_of_size_eq_zero h13)
        rw [if_neg (by omega)] at E; have HE := Lib.hid E; clear E h9 h10 h13
        subst hpe
        go_enter Try.func49, Try.ntmps49
        go_wp2
        go_ret
        exact ⟨ret_i HE.out.symm, (Below.refl _ _).alloc (Nat.le_refl _) _⟩
      · have hpe : p.toList.isEmpty = false := by
          rw [ByteArray.toList_eq]
          cases hq : p.data.toList with
          | nil => exfalso; apply h13; rw [← size_list, hq]; rfl
          | cons => rfl
        rw [if_pos (by omega)] at E; have HE := Lib.hid E; clear E h9 h10 h13
        go_enter Try.func49, Try.ntmps49
        go_wp2
        go_ret
        exact ⟨ret_i HE.out.symm, (Below.refl _ _).alloc (Nat.le_refl _) _⟩
    · have d12 : (k == 2) = false := by simpa using h12
      rw [if_neg (by omega)] at E; have HE := Lib.hid E; clear E h9 h10 h12
      go_enter Try.func49, Try.ntmps49
      go_wp2
      go_ret
      exact ⟨ret_i HE.out.symm, (Below.refl _ _).alloc (Nat.le_refl _) _⟩

end Go.Proofs.Ythhggiifbldaeaa
