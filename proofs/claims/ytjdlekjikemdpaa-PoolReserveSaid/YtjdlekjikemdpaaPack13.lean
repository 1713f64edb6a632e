/- Texts that belong together, part 13. -/
import Derived.Test.YtjdlekjikemdpaaPack12
import Derived.Laws.AppendOwn
import Derived.Deep.OwnRows

/- Boxes of a walk beside dice that it rolled. -/
namespace Go.Proofs.Ytjdlekjikemdpaa.Ents
open Go.RowKit Plan
theorem bxd_row (w : World) (x : Nat) (cs : Array Value) : w.grownBy (w.setRow x cs) (some x) :=
  ⟨rfl, rfl, rfl, Nat.le_of_eq (by simp [World.setRow]), fun i _ hne => setRow_other w x i cs (fun e => hne (by rw [e]))⟩
theorem bxd_dice {W : World} {base q X : Nat} {L : List Int} {k : Nat} (h : Dice W base q L k) (hX : X < base ∨ q < X) (cs : Array Value) : Dice (W.setRow X cs) base q L k := by
  have hg := bxd_row W X cs
  have hlt := dice_lt h
  obtain ⟨v, hr, hown, hne, hbase⟩ := h
  refine ⟨v, (hg.block q hlt (fun e => by have := Option.some.inj e; omega)).trans hr, hown.kept hg (.inr fun e => ?_), hne, hbase⟩
  have h1 := (hown.lt X e).1
  have h2 := hne X e
  omega
theorem dice_far' {w w' : World} {base g : Nat} {o : Option Nat} {zs : List Int} {k : Nat} (h : Dice w base g zs k) (hg : w.grownBy w' o) (hx : ∀ z, o = some z → g < z) : Dice w' base g zs k := by
  have hlt := dice_lt h
  obtain ⟨v, hr, hown, hne, hbase⟩ := h
  exact ⟨v, (hg.block g hlt (fun e => by have := hx _ e.symm; omega)).trans hr, hown.kept hg (by
    cases hv : v.ownBlock with
    | none => exact .inl rfl
    | some x => exact .inr fun e => by have h1 := hne x hv; have h2 := hx x e.symm; omega), hne, hbase⟩
structure BxD (w W : World) (B : List (Nat × Obj)) (base q : Nat) (L : List Int) (k : Nat) : Prop where
  bx : Bxs w W B
  dd : Dice W base q L k
  lo : w.heap.size ≤ base
  ap : ∀ x ∈ B, x.1 < base ∨ q < x.1
section
variable {w W W' : World} {B : List (Nat × Obj)} {base q : Nat} {L : List Int} {k k' : Nat}
theorem BxD.roll {q : Nat} (K : Bxs w W B) (hd : Dice W' W.heap.size q L k) (h : Below W.heap.size W W') : BxD w W' B W.heap.size q L k := ⟨K.on h, hd, K.hb.size, fun _ hx => .inl (K.lt hx)⟩
theorem BxD.hb (K : BxD w W B base q L k) : Below w.heap.size w W := K.bx.hb
theorem BxD.get (K : BxD w W B base q L k) (i : Nat) {g : Nat} {o : Obj} (h : B[i]? = some (g, o)) : W.heap[g]? = some o := K.bx.get i h
theorem BxD.on (K : BxD w W B base q L k) (h : Below W.heap.size W W') : BxD w W' B base q L k := ⟨K.bx.on h, dice_on K.dd h (Nat.le_refl _), K.lo, K.ap⟩
theorem BxD.drew (K : BxD w W B base q L k) : BxD w W.drew B base q L k := K.on (Below.refl _ _).drew
theorem BxD.al' (K : BxD w W B base q L k) (o : Obj) : BxD w (W.alloc o) B base q L k := K.on ((Below.refl _ _).alloc (Nat.le_refl _) o)
theorem BxD.al (K : BxD w W B base q L k) (o : Obj) : BxD w (W.alloc o) ((W.heap.size, o) :: B) base q L k :=
  ⟨K.bx.al o, (K.al' o).dd, K.lo, fun x hx => by
    rcases List.mem_cons.1 hx with rfl | hx
    · exact .inr (dice_lt K.dd)
    · exact K.ap x hx⟩
theorem BxD.ne (K : BxD w W B base q L k) {x : Nat × Obj} (h : x ∈ B) : x.1 ≠ q := by
  have h1 := K.ap x h
  have h2 := dice_base K.dd
  omega
theorem BxD.next (K : BxD w W B base q L k) (hd : Dice W' base q L k') (hw : W.grownBy W' (some q)) : BxD w W' B base q L k' :=
  ⟨K.bx.grown hw (fun z hz => by obtain rfl := Option.some.inj hz; exact ⟨Nat.le_trans K.lo (dice_base K.dd), fun x hx => K.ne hx⟩), hd, K.lo, K.ap⟩
theorem BxD.put (K : BxD w W B base q L k) (i : Nat) {g : Nat} {cs cs' : Array Value} {t : TypeId} (h : B[i]? = some (g, .cells cs t (0, 0))) {B' : List (Nat × Obj)} (hB : B' = B.set i (g, .cells cs' t (0, 0))) : BxD w (W.setRow g cs') B' base q L k := by
  have hg := K.ap _ (List.mem_of_getElem? h)
  refine ⟨K.bx.put i h hB, bxd_dice K.dd hg _, K.lo, fun x hx => ?_⟩
  subst hB
  rcases List.mem_or_eq_of_mem_set hx with hx | rfl
  · exact K.ap x hx
  · exact hg
/-- a list that the walk owns grows -/
theorem BxD.grown {o : Option Nat} (K : BxD w W B base q L k) (h : W.grownBy W' o) (ho : ∀ z, o = some z → q < z ∧ ∀ x ∈ B, x.1 ≠ z) : BxD w W' B base q L k :=
  ⟨K.bx.grown h (fun z hz => ⟨by have := (ho z hz).1; have := K.lo; have := dice_base K.dd; omega, (ho z hz).2⟩), dice_far' K.dd h (fun z hz => (ho z hz).1), K.lo, K.ap⟩
end
end Go.Proofs.Ytjdlekjikemdpaa.Ents

/- Lists of numbers that lie in memory, in the blocks of a set; lists of numbers that the call owns. -/
namespace Go.Proofs.Ytjdlekjikemdpaa.Ents
open Go.RowKit Plan EntMath
def IList (w : World) (F : Nat → Prop) (a : Option Addr) (len cap : Nat) (Z : List Int) : Prop :=
  (True ∧ len = 0 ∧ cap = 0 ∧ Z = []) ∨
  ∃ x, a = some x ∧ len ≤ cap ∧ cap ≤ maxLen ∧ Z.length = len ∧ x.block < w.heap.size ∧ F x.block ∧ ∀ (j : Nat) z, Z[j]? = some z → w.cell? (x.add j) = some (.int .i64 z)
theorem IList.nil (w : World) (F : Nat → Prop) : IList w F none 0 0 [] := .inl ⟨trivial, rfl, rfl, rfl⟩
theorem IList.length {w : World} {F : Nat → Prop} {a : Option Addr} {n c : Nat} {Z : List Int} (h : IList w F a n c Z) : Z.length = n := by
  rcases h with ⟨_, rfl, _, rfl⟩ | ⟨x, _, _, _, h4, _⟩
  · rfl
  · exact h4
theorem IList.cap {w : World} {F : Nat → Prop} {a : Option Addr} {n c : Nat} {Z : List Int} (h : IList w F a n c Z) : n ≤ c ∧ c ≤ maxLen := by
  rcases h with ⟨_, rfl, rfl, rfl⟩ | ⟨x, _, h2, h3, _⟩
  · exact ⟨Nat.le_refl _, Nat.zero_le _⟩
  · exact ⟨h2, h3⟩
theorem IList.on {F : Nat → Prop} {w w' : World} {a : Option Addr} {n c : Nat} {Z : List Int} (h : IList w F a n c Z) (hw : Same F w w') : IList w' F a n c Z := by
  rcases h with h | ⟨x, h1, h2, h3, h4, h5, h6, h7⟩
  · exact .inl h
  · exact .inr ⟨x, h1, h2, h3, h4, Nat.lt_of_lt_of_le h5 hw.1, h6, fun j z hz => hw.cell (by rw [ent_add_block]; exact h6) (h7 j z hz)⟩
theorem IList.mono {F G : Nat → Prop} {w : World} {a : Option Addr} {n c : Nat} {Z : List Int} (h : IList w F a n c Z) (hFG : ∀ b, b < w.heap.size → F b → G b) : IList w G a n c Z := by
  rcases h with h | ⟨x, h1, h2, h3, h4, h5, h6, h7⟩
  · exact .inl h
  · exact .inr ⟨x, h1, h2, h3, h4, h5, hFG _ h5 h6, h7⟩
theorem IList.cut {F : Nat → Prop} {w : World} {a : Option Addr} {n c : Nat} {Z : List Int} (h : IList w F a n c Z) : IList w (fun b => F b ∧ b < w.heap.size) a n c Z := h.mono fun _ hb hf => ⟨hf, hb⟩
theorem IList.low {F : Nat → Prop} {w : World} {a : Option Addr} {n c : Nat} {Z : List Int} (h : IList w F a n c Z) : IList w (fun b => b < w.heap.size) a n c Z := h.mono fun _ hb _ => hb
theorem IList.same {F : Nat → Prop} {w w' : World} {a : Option Addr} {n c : Nat} {Z : List Int} (h : IList w F a n c Z) (hb : Below w.heap.size w w') : IList w' (fun b => b < w.heap.size) a n c Z := h.low.on (Same.low hb)
theorem IList.at' {F : Nat → Prop} {w : World} {a : Option Addr} {n c : Nat} {Z : List Int} (h : IList w F a n c Z) (i : Nat) (hi : i < n) : ∃ x z, a = some x ∧ Z[i]? = some z ∧ w.cell? (x.add i) = some (.int .i64 z) := by
  have hl := h.length
  rcases h with ⟨_, rfl, _, _⟩ | ⟨x, h1, _, _, _, _, _, h7⟩
  · omega
  · have he : Z[i]? = some (Z[i]'(by omega)) := List.getElem?_eq_getElem _
    exact ⟨x, _, h1, he, h7 i _ he⟩
theorem IList.some' {F : Nat → Prop} {w : World} {a : Option Addr} {n c : Nat} {Z : List Int} (h : IList w F a n c Z) (hn : 0 < n) : ∃ x, a = some x ∧ x.block < w.heap.size ∧ ∀ (j : Nat) z, Z[j]? = some z → w.cell? (x.add j) = some (.int .i64 z) := by
  rcases h with ⟨_, rfl, _, _⟩ | ⟨x, h1, _, _, _, h5, _, h7⟩
  · omega
  · exact ⟨x, h1, h5, h7⟩
/-- a list of numbers as cells -/
def intC (Z : List Int) : List Value := Z.map fun z => .int .i64 z
theorem intC_len (Z : List Int) : (intC Z).length = Z.length := by simp [intC]
theorem intC_at {Z : List Int} {j : Nat} {z : Int} (h : Z[j]? = some z) : (intC Z)[j]? = some (.int .i64 z) := by simp [intC, h]
theorem intC_flat (Z : List Int) : ∀ u ∈ intC Z, u.oneCell' = true := by
  intro u hu
  obtain ⟨z, _, rfl⟩ := List.mem_map.1 hu
  rfl
theorem intC_set (Z : List Int) (i : Nat) (z : Int) : (intC Z).set i (.int .i64 z) = intC (Z.set i z) := by simp [intC, List.map_set]
theorem intC_cell {Z : List Int} {w : World} {x : Addr} (h : ∀ (j : Nat) z, Z[j]? = some z → w.cell? (x.add j) = some (.int .i64 z)) : ∀ j u, (intC Z)[j]? = some u → w.cell? (x.add j) = some u := by
  intro j u hu
  unfold intC at hu
  rw [List.getElem?_map] at hu
  cases hz : Z[j]? with
  | none => rw [hz] at hu; cases hu
  | some z =>
    rw [hz] at hu
    obtain rfl := Option.some.inj hu
    exact h j z hz
theorem own_ilist {w : World} {B : Nat} {v : Value} {n : Nat} {Z : List Int} {F : Nat → Prop} (h : w.ownsRow B 3 1 v n (intC Z)) (hF : ∀ b, v.ownBlock = some b → F b) : ∃ a c, v = .slice a n c ∧ IList w F a n c Z := by
  have hn : Z.length = n := by have := h.1; rw [intC_len] at this; omega
  rcases h.2 with ⟨rfl, rfl⟩ | ⟨g, cap, cur, rfl, _, hg, h1, h2, _⟩
  · exact ⟨none, 0, rfl, .inl ⟨trivial, rfl, rfl, List.length_eq_zero_iff.1 hn⟩⟩
  · exact ⟨_, _, rfl, .inr ⟨_, rfl, h1, h2, hn, (Array.getElem?_eq_some_iff.1 hg).1, hF g rfl, fun j z hz => h.cells (g := g) rfl j _ (intC_at hz)⟩⟩
theorem int_info : (Try.prog.info? 3).map (fun i => (i.zero, i.size, i.bytes)) = some (some (.int .i64 0), 1, 8) := by kernel_rfl
theorem ints_empty (w : World) {H : Nat} (hH : w.heap.size = H) : (w.alloc (.cells #[] 3)).ownsRow H 3 1 (.slice (some ⟨H, 0, none⟩) 0 0) 0 [] := by
  subst hH
  exact World.ownsRow_made (base := w.heap.size) (e := 3) (size := 1) w #[] 0 (Nat.le_refl _) (by unfold maxLen; decide) rfl
theorem int_own_cell {w : World} {B g n cap : Nat} {Z : List Int} {j : Nat} {z : Int} (h : w.ownsRow B 3 1 (.slice (some ⟨g, 0, none⟩) n cap) n (intC Z)) (hj : Z[j]? = some z) : w.cell? ⟨g, j, none⟩ = some (.int .i64 z) ∧ w.frozen? ⟨g, j, none⟩ = false := by
  constructor
  · have := h.cells (g := g) rfl j _ (intC_at hj)
    rw [Addr.add_lit, Nat.zero_add] at this
    exact this
  · rcases h.2 with ⟨h, _⟩ | ⟨g', cap', cur, hv, hb, hg, _⟩
    · cases h
    · cases hv
      simp [World.frozen?, hg]
theorem i_b {a b : Bool} (h : a = b) : Ending.returned (.bool a) = .returned (.bool b) := by rw [h]
end Go.Proofs.Ytjdlekjikemdpaa.Ents

/- Counters in memory; the walks of the document's Valid, has, plus, Same, New of counters. -/
namespace Go.Proofs.Ytjdlekjikemdpaa.Ents
open Go.RowKit Plan EntMath CntMath
abbrev cntV (a : Option Addr) (n c : Nat) (a2 : Option Addr) (n2 c2 : Nat) : Value := .agg #[.slice a n c, .slice a2 n2 c2]
/-- counters that lie in the blocks of a set -/
structure CList (w : World) (F : Nat → Prop) (a : Option Addr) (n c : Nat) (a2 : Option Addr) (n2 c2 : Nat) (C : Cnt) : Prop where
  l : IList w F a n c C.live
  p : IList w F a2 n2 c2 C.pend
theorem CList.on {F : Nat → Prop} {w w' : World} {a a2 : Option Addr} {n c n2 c2 : Nat} {C : Cnt} (h : CList w F a n c a2 n2 c2 C) (hw : Same F w w') : CList w' F a n c a2 n2 c2 C := ⟨h.l.on hw, h.p.on hw⟩
theorem CList.mono {F G : Nat → Prop} {w : World} {a a2 : Option Addr} {n c n2 c2 : Nat} {C : Cnt} (h : CList w F a n c a2 n2 c2 C) (hFG : ∀ b, b < w.heap.size → F b → G b) : CList w G a n c a2 n2 c2 C := ⟨h.l.mono hFG, h.p.mono hFG⟩
theorem CList.cut {F : Nat → Prop} {w : World} {a a2 : Option Addr} {n c n2 c2 : Nat} {C : Cnt} (h : CList w F a n c a2 n2 c2 C) : CList w (fun b => F b ∧ b < w.heap.size) a n c a2 n2 c2 C := ⟨h.l.cut, h.p.cut⟩
theorem CList.same {F : Nat → Prop} {w w' : World} {a a2 : Option Addr} {n c n2 c2 : Nat} {C : Cnt} (h : CList w F a n c a2 n2 c2 C) (hb : Below w.heap.size w w') : CList w' (fun b => b < w.heap.size) a n c a2 n2 c2 C := ⟨h.l.same hb, h.p.same hb⟩
theorem two_row {w : World} {g : Nat} {a b : Value} {t : TypeId} {fr : Nat × Nat} (h : w.heap[g]? = some (.cells #[a, b] t fr)) : w.cell? ⟨g, 0, none⟩ = some a ∧ w.cell? ⟨g, 1, none⟩ = some b := ⟨cell_of_row _ _ 0 _ _ _ h, cell_of_row _ _ 1 _ _ _ h⟩
theorem cnt_no {C : Cnt} (h : ¬ (C.live.length = C.pend.length ∧ 1 ≤ C.live.length ∧ C.live.length ≤ 32)) : validC C = false := by
  cases hv : validC C
  · rfl
  · exact absurd (valid_c.1 hv).1 h
theorem cnt_badl {C : Cnt} {j : Nat} {z : Int} (hz : C.live[j]? = some z) (h : ¬ (0 ≤ z ∧ z ≤ 1099511627776)) : validC C = false := by
  cases hv : validC C
  · rfl
  · exact absurd ((valid_c.1 hv).2.1 z (List.mem_of_getElem? hz)) h
theorem cnt_badp {C : Cnt} {j : Nat} {z : Int} (hz : C.pend[j]? = some z) (h : ¬ (0 ≤ z ∧ z ≤ 1099511627776)) : validC C = false := by
  cases hv : validC C
  · rfl
  · exact absurd ((valid_c.1 hv).2.2 z (List.mem_of_getElem? hz)) h
theorem cnt_all {C : Cnt} (h : C.live.length = C.pend.length ∧ 1 ≤ C.live.length ∧ C.live.length ≤ 32) (hs : ∀ j : Nat, j < C.live.length → (∀ z, C.live[j]? = some z → 0 ≤ z ∧ z ≤ 1099511627776) ∧ ∀ z, C.pend[j]? = some z → 0 ≤ z ∧ z ≤ 1099511627776) : validC C = true := by
  refine valid_c.2 ⟨h, fun z hz => ?_, fun z hz => ?_⟩
  · obtain ⟨j, hj⟩ := List.mem_iff_getElem?.1 hz
    exact (hs j (List.getElem?_eq_some_iff.1 hj).1).1 z hj
  · obtain ⟨j, hj⟩ := List.mem_iff_getElem?.1 hz
    exact (hs j (by have := (List.getElem?_eq_some_iff.1 hj).1; omega)).2 z hj
theorem five_ways (z y : Int) : (z < 0) ∨ (¬ z < 0 ∧ 1099511627776 < z) ∨ (¬ z < 0 ∧ ¬ 1099511627776 < z ∧ y < 0) ∨ (¬ z < 0 ∧ ¬ 1099511627776 < z ∧ ¬ y < 0 ∧ 1099511627776 < y) ∨ (¬ z < 0 ∧ ¬ 1099511627776 < z ∧ ¬ y < 0 ∧ ¬ 1099511627776 < y) := by omega
theorem plus_is {Z : List Int} {i : Nat} {z : Int} (h : Z[i]? = some z) (k : Int) : plusL Z i k = Z.set i (z + k) := by unfold plusL; rw [getD_at h]
end Go.Proofs.Ytjdlekjikemdpaa.Ents
