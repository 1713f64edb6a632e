/- Texts that belong together, part 14. -/
import Derived.Test.YtbfoagfemgogkaaPack13

/- The walk of LivePending, under the program's contracts. -/
namespace Go.Proofs.Ytbfoagfemgogkaa.Ents
open Go.RowKit Plan EntMath CntMath
theorem pend_has {n j q : Nat} {K : List Int} (hn1 : 1 ≤ n) (hn2 : n ≤ 32) (hK : K.length = n) (hb : ∀ z ∈ K, 0 ≤ z ∧ z ≤ (j : Int)) (hj : j ≤ 100) (hq : q < n) : hasC ⟨List.replicate n 0, K⟩ (q : Int) = true := by
  refine has_c.2 ⟨valid_c.2 ⟨⟨by simp [hK], by simpa using hn1, by simpa using hn2⟩, fun z hz => ?_, fun z hz => ?_⟩, by omega, by simpa using hq⟩
  · have := List.eq_of_mem_replicate hz
    omega
  · have := hb z hz
    omega
theorem pend_begin {n j q : Nat} {K : List Int} {y : Int} (hn1 : 1 ≤ n) (hn2 : n ≤ 32) (hK : K.length = n) (hb : ∀ z ∈ K, 0 ≤ z ∧ z ≤ (j : Int)) (hj : j ≤ 100) (hy : K[q]? = some y) : beginB ⟨List.replicate n 0, K⟩ (q : Int) = true ∧ beginC ⟨List.replicate n 0, K⟩ (q : Int) = ⟨List.replicate n 0, K.set q (y + 1)⟩ := by
  have hq : q < n := by have := (List.getElem?_eq_some_iff.1 hy).1; omega
  have hyb := hb y (List.mem_of_getElem? hy)
  obtain ⟨h1, h2⟩ := begin_is (pend_has hn1 hn2 hK hb hj hq) hy
  rw [h1, h2, if_neg (by omega), plus_is hy]
  exact ⟨by simp; omega, rfl⟩
theorem set_same {K : List Int} {q : Nat} {y : Int} (hy : K[q]? = some y) : K.set q y = K := by
  refine List.ext_getElem? fun i => ?_
  rw [List.getElem?_set]
  split
  · rename_i h
    subst h
    rw [if_pos (List.getElem?_eq_some_iff.1 hy).1, hy]
  · rfl
theorem pend_end {n j q : Nat} {K : List Int} {y : Int} (hn1 : 1 ≤ n) (hn2 : n ≤ 32) (hK : K.length = n) (hb : ∀ z ∈ K, 0 ≤ z ∧ z ≤ (j : Int)) (hj : j ≤ 100) (hy : K[q]? = some y) : endB ⟨List.replicate n 0, K⟩ (q : Int) = decide (0 < y) ∧ endC ⟨List.replicate n 0, K⟩ (q : Int) = ⟨List.replicate n 0, K.set q (max 0 (y - 1))⟩ := by
  have hq : q < n := by have := (List.getElem?_eq_some_iff.1 hy).1; omega
  have hyb := hb y (List.mem_of_getElem? hy)
  obtain ⟨h1, h2⟩ := end_is (pend_has hn1 hn2 hK hb hj hq) hy
  rw [h1, h2]
  refine ⟨decide_eq_decide.2 (by omega), ?_⟩
  by_cases h0 : y = 0
  · subst h0
    rw [if_pos rfl, show max (0 : Int) (0 - 1) = 0 from rfl, set_same hy]
  · rw [if_neg h0, plus_is hy, show max (0 : Int) (y - 1) = y + -1 from by omega]
theorem set_bound {K : List Int} {j q : Nat} {y : Int} (hb : ∀ z ∈ K, 0 ≤ z ∧ z ≤ (j : Int)) (hy : 0 ≤ y ∧ y ≤ (j : Int) + 1) : ∀ z ∈ K.set q y, 0 ≤ z ∧ z ≤ ((j + 1 : Nat) : Int) := by
  intro z hz
  rcases List.mem_or_eq_of_mem_set hz with h | rfl
  · have := hb z h
    omega
  · omega
theorem store_int_c {ops : Array Oper} {rest : List Oper} {a : Act} {w : World} {Q : Exit → Act → World → Prop} (ty : TypeId) (x y : Operand) {t' : TypeId} {pos : String} {after : Array Edge}
    (b o : Nat) (k : IntKind) (n : Int) (hx : a.eval x = .pointer (some ⟨b, o, none⟩)) (hy : a.eval y = .int k n) (hc : ∃ u, w.cell? ⟨b, o, none⟩ = some u) (hf : w.frozen? ⟨b, o, none⟩ = false) (hi : (Try.prog.info? ty).map (·.size) = some 1)
    (h : wpList Try.prog ops Q rest (a.put none undef) (w.setCell ⟨b, o, none⟩ (.int k n))) : wpList Try.prog ops Q (⟨none, .store ty x y, t', pos, after, none⟩ :: rest) a w :=
  wpList_plain rfl fun _ hK => Put.wp_store_int ty x y rfl b o k n hx hy hc hf hi (hK _ _ h)
theorem row_cell {w : World} {g q : Nat} {K : List Int} {y : Int} (h : w.heap[g]? = some (intRow K)) (hy : K[q]? = some y) : w.cell? ⟨g, q, none⟩ = some (.int .i64 y) := by
  have h2 := cell_of_row w g q _ _ _ h
  rw [List.getElem?_toArray, intC_at hy] at h2
  exact h2
theorem byte_at {w W : World} {a : Option Addr} {l c : Nat} {zs : List Int} (h : IsRow .u8 w a l c zs) (hb : Below w.heap.size w W) {i : Nat} (hi : i < l) : ∃ x B, a = some x ∧ W.cell? (x.add i) = some (.int .u8 B) ∧ 0 ≤ B ∧ B ≤ 255 := by
  rcases h with ⟨_, rfl, _⟩ | ⟨x, hx, h1, _, h2, h3, h4⟩
  · omega
  · have hc := h3 i (by omega)
    have hw : (Lit.int .u8 (zs.getD i 0)).wf = true := h4 _ (by
      rw [List.getD_eq_getElem?_getD, List.getElem?_eq_getElem (by omega)]
      exact List.getElem_mem _)
    have hr : 0 ≤ zs.getD i 0 ∧ zs.getD i 0 ≤ 255 := by
      have e1 : IntKind.u8.min = 0 := rfl
      have e2 : IntKind.u8.max = 255 := rfl
      simp only [Lit.wf, decide_eq_true_eq, Bool.and_eq_true] at hw
      omega
    exact ⟨x, zs.getD i 0, hx, (hb.cell (p := x.add i) (by first | exact Go.RowKit.block_lt_of_cell hc | exact block_lt_of_cell hc | exact World.block_lt_of_cell? _ hc | exact World.block_lt_of_cell? _ _ hc)).trans hc, hr⟩
end Go.Proofs.Ytbfoagfemgogkaa.Ents

/- The walks of the document's Held and New of locks. -/
namespace Go.Proofs.Ytbfoagfemgogkaa.Ents
open Go.RowKit Plan EntMath CntMath LckMath
theorem append_int {w : World} {ops : Array Oper} {rest : List Oper} {o : Oper} {a : Act} {Q : Exit → Act → World → Prop} (hgd : o.guard = none) (s x : Operand)
    (ho : o.op = .call { callee := .builtin .append, args := #[s, x], argTypes := #[22, 22] })
    (base : Nat) (v : Value) (m0 : Nat) (Z : List Int) (hs : a.eval s = v) (hown : w.ownsRow base 3 1 v m0 (intC Z)) (g : Nat) (z : Int) (hx : a.eval x = .slice (some ⟨g, 0, none⟩) 1 1) (hg : w.heap[g]? = some (.cells #[.int .i64 z] 3 (0, 0))) (hm : m0 ≤ 900000) (hbase : base ≤ w.heap.size)
    (h : ∀ g' c' w', w'.ownsRow base 3 1 (.slice (some ⟨g', 0, none⟩) (m0 + 1) c') (m0 + 1) (intC (Z ++ [z])) → w.grownBy w' v.ownBlock → (v.ownBlock = some g' ∨ g' = w.heap.size) → wpList Try.prog ops Q rest (a.put o.dst (.slice (some ⟨g', 0, none⟩) (m0 + 1) c')) w') : wpList Try.prog ops Q (o :: rest) a w := by
  obtain ⟨i1, hi1, hy0, hy1, hy2⟩ := info_parts int_info
  have hL : ∀ j u, (intC [z])[j]? = some u → w.cell? ((⟨g, 0, none⟩ : Addr).add j) = some u := fun j u hu => by
    rw [Addr.add_lit, Nat.zero_add]
    exact (cell_of_row w g j _ _ _ hg).trans (by rw [List.getElem?_toArray]; exact hu)
  refine wpList_append_lies w hgd s x 22 ho base 3 i1 _ 1 8 Try.underlying22 hi1 hy0 hy1 hy2 rfl (by decide) v m0 (intC Z) hs hown ⟨g, 0, none⟩ 1 1 (intC [z]) hx rfl hL (intC_flat _) (by decide) (by unfold maxLen; omega) (by omega) hbase _ rfl ?_
  intro g' c' w' h1 h2 h3 _
  rw [show intC Z ++ intC [z] = intC (Z ++ [z]) from by simp [intC]] at h1
  exact h g' c' w' h1 h2 h3
/-- what Held leaves -/
def HeldPost (w : World) (Z : List Int) (r : Ending) (w' : World) : Prop := ∃ a n c, r = .returned (.slice a n c) ∧ IList w' (fun b => w.heap.size ≤ b) a n c Z ∧ Below w.heap.size w w'
/-- what New leaves -/
def LNewPost (w : World) (O : List Int) (E : Int) (r : Ending) (w' : World) : Prop := ∃ a n c, r = .returned (.tuple #[lckV a n c, .int .i64 E]) ∧ IList w' (fun b => w.heap.size ≤ b) a n c O ∧ Below w.heap.size w w'
theorem all_is {Z : List Int} {n : Nat} {v : Int} (h : Z.length = n) (hi : ∀ i : Nat, i < n → Z[i]? = some v) : Z = List.replicate n v := by
  refine List.ext_getElem? fun i => ?_
  rcases Nat.lt_or_ge i n with h1 | h1
  · rw [hi i h1, List.getElem?_replicate, if_pos h1]
  · rw [List.getElem?_eq_none (by omega), List.getElem?_eq_none (by simp; omega)]
end Go.Proofs.Ytbfoagfemgogkaa.Ents

/- Epochs in memory. -/
namespace Go.Proofs.Ytbfoagfemgogkaa.Ents
open Go.RowKit Plan EntMath CntMath EpoMath Rws
def RR : Row Ret := ⟨48, 23, 2, 16, .agg #[.int .i64 0, .int .i64 0], fun r => [.int .i64 r.zone, .int .i64 r.epoch]⟩
theorem rrOk : RR.Ok := ⟨fun _ => rfl, fun e u hu => by simp only [RR, List.mem_cons, List.not_mem_nil, or_false] at hu; rcases hu with rfl | rfl <;> rfl, by decide, by kernel_rfl, rfl, Try.underlying23, by decide⟩
abbrev RList := TList RR
abbrev retV (r : Ret) : Value := .agg #[.int .i64 r.zone, .int .i64 r.epoch]
abbrev retRow (z e : Int) : Obj := .cells #[.int .i64 z, .int .i64 e] 48
abbrev RetAt (w : World) (x : Addr) (i : Nat) (r : Ret) : Prop := w.cell? (x.add (i * 2)) = some (.int .i64 r.zone) ∧ w.cell? ⟨(x.add (i * 2)).block, (x.add (i * 2)).off + 1, none⟩ = some (.int .i64 r.epoch)
theorem ret_at {w : World} {F : Nat → Prop} {a : Option Addr} {n c : Nat} {L : List Ret} (h : RList w F a n c L) (i : Nat) (hi : i < n) : ∃ x r, a = some x ∧ L[i]? = some r ∧ RetAt w x i r := by
  obtain ⟨x, r, hx, hr, hc⟩ := h.at' rrOk i hi
  exact ⟨x, r, hx, hr, hc 0 _ rfl, by rw [← ent_add_off x (i * 2) 0]; exact hc 1 _ rfl⟩
abbrev epoV (g : Int) (a : Option Addr) (n c : Nat) (b : Option Addr) (m d : Nat) : Value := .agg #[.int .i64 g, .slice a n c, .slice b m d]
abbrev epoRow (g : Int) (a : Option Addr) (n c : Nat) (b : Option Addr) (m d : Nat) : Obj := .cells #[.int .i64 g, .slice a n c, .slice b m d] 25
theorem epo_info : (Try.prog.info? 25).map (·.size) = some 3 := by kernel_rfl
theorem ret_info : (Try.prog.info? 48).map (·.size) = some 2 := by kernel_rfl
theorem rets_info1 : (Try.prog.info? 23).map (·.size) = some 1 := by kernel_rfl
theorem three_row {w : World} {g : Nat} {a b c : Value} {t : TypeId} {fr : Nat × Nat} (h : w.heap[g]? = some (.cells #[a, b, c] t fr)) : w.cell? ⟨g, 0, none⟩ = some a ∧ w.cell? ⟨g, 1, none⟩ = some b ∧ w.cell? ⟨g, 2, none⟩ = some c := ⟨cell_of_row _ _ 0 _ _ _ h, cell_of_row _ _ 1 _ _ _ h, cell_of_row _ _ 2 _ _ _ h⟩
/-- epochs that lie in the blocks of a set -/
structure PList (w : World) (F : Nat → Prop) (g : Int) (a : Option Addr) (n c : Nat) (b : Option Addr) (m d : Nat) (E : Epo) : Prop where
  hg : E.glob = g
  p : IList w F a n c E.pins
  z : RList w F b m d E.zones
section
variable {w w' : World} {F G : Nat → Prop} {g : Int} {a b : Option Addr} {n c m d : Nat} {E : Epo}
theorem PList.on (h : PList w F g a n c b m d E) (hw : Same F w w') : PList w' F g a n c b m d E := ⟨h.hg, h.p.on hw, h.z.on hw⟩
theorem PList.mono (h : PList w F g a n c b m d E) (hFG : ∀ b, b < w.heap.size → F b → G b) : PList w G g a n c b m d E := ⟨h.hg, h.p.mono hFG, h.z.mono hFG⟩
theorem PList.cut (h : PList w F g a n c b m d E) : PList w (fun b => F b ∧ b < w.heap.size) g a n c b m d E := ⟨h.hg, h.p.cut, h.z.cut⟩
theorem PList.same (h : PList w F g a n c b m d E) (hb : Below w.heap.size w w') : PList w' (fun b => b < w.heap.size) g a n c b m d E := ⟨h.hg, h.p.same hb, h.z.same hb⟩
end
/-- what a function that changes epochs leaves -/
def EpoPost (w : World) (F : Nat → Prop) (E : Epo) (B : Bool) (r : Ending) (w' : World) : Prop :=
  ∃ g a n c b m d, r = .returned (.tuple #[epoV g a n c b m d, .bool B]) ∧ PList w' (Plus F w.heap.size) g a n c b m d E ∧ Below w.heap.size w w'
set_option maxHeartbeats 4000000 in
set_option maxRecDepth 20000 in
theorem refRetired_any (F : Nat → Prop) (E : Epo) (z : Int) (u : Nat) (g : Int) (a b : Option Addr) (n c m d : Nat) (w : World) (hl : PList w F g a n c b m d E) (hu : u ≤ m) :
    Calls Try.prog 43 #[epoV g a n c b m d, .int .i64 z, .int .i64 (u : Int)] w fun r w' => r = .returned (.bool (isRet (E.zones.take u) z)) ∧ Below w.heap.size w w' := by
  have hlen := hl.z.length
  have hA := (Below.refl w.heap.size w).alloc (Nat.le_refl _) (epoRow g a n c b m d)
  have hr0 := heap_alloc_new w (epoRow g a n c b m d)
  have HAT := Lib.hid (fun W (h : Below w.heap.size w W) i (hi : i < m) => ret_at (hl.z.same h) i hi)
  have HHERE := Lib.hid (fun j r (h : E.zones[j]? = some r) => @ret_here E.zones z j u r h)
  have HNEXT := Lib.hid (fun j r (h : E.zones[j]? = some r) => @ret_take E.zones z j r h)
  have H0 := Lib.hid (show isRet (E.zones.take 0) z = false from by simp [isRet])
  have hcp := hl.z.cap
  unfold maxLen at hcp
  clear hl
  go_enter Try.func43, Try.ntmps43
  generalize hw0 : w.alloc (epoRow g a n c b m d) = w0 at *
  go_wp2_with fail
  go_loopw [7] (fun x wr => ∃ j : Nat, x = .int .i64 (j : Int) ∧ j ≤ u ∧ RowKit.Hid (isRet (E.zones.take j) z = false) ∧ wr.heap[w.heap.size]? = some (epoRow g a n c b m d) ∧ Below w.heap.size w wr) (fun x _ => u - (intOf x).toNat)
  case atStart => exact ⟨0, rfl, by omega, H0, hr0, hA⟩
  case round =>
    clear hr0 hA
    obtain ⟨j, rfl, hj, hn, hr, hb⟩ := hrel
    by_cases hlt : j < u
    · obtain ⟨x, r, rfl, hz, hat⟩ := HAT.out wr hb j (by omega)
      have hjI : (j : Int) < (u : Int) := by omega
      have hjm : (j : Int) < (m : Int) := by omega
      obtain ⟨c0, c1, c2⟩ := three_row hr
      have HN := Lib.hid (HHERE.out j r hz hlt)
      have HX := Lib.hid (HNEXT.out j r hz)
      clear hz
      obtain ⟨rz, re⟩ := r
      obtain ⟨d0, d1⟩ := hat
      try simp only at d0 d1 HN HX
      by_cases hq : rz = z
      · have q1 : (rz == z) = true := by simpa using hq
        have HR := Lib.hid (HN.out hq)
        subst hq
        go_wp2_with fail
        go_ret
        exact ⟨i_b HR.out.symm, hb⟩
      · have q1 : (rz == z) = false := by simpa using hq
        have HY := Lib.hid (HX.out.trans (by rw [hn.out, decide_eq_false hq]))
        go_wp2_with fail
        go_roundw
        case rel => exact ⟨j + 1, by go_num, by omega, HY, hr, hb⟩
        case measure => simp [intOf]; omega
    · obtain rfl : j = u := by omega
      have hjI : ¬ (j : Int) < (j : Int) := by omega
      go_wp2_with fail
      go_ret
      exact ⟨i_b hn.out.symm, hb⟩
end Go.Proofs.Ytbfoagfemgogkaa.Ents
