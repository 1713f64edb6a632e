/- Texts that belong together, part 20. -/
import Derived.Test.YthhggiifbldaeaaPack19
import Derived.Laws.CopyRow

/- The walk of the program's with: the zones are copied, one is changed. -/
namespace Go.Proofs.Ythhggiifbldaeaa
open Go.RowKit Plan ZnsMath

theorem run_copy_whole {P : Program} (w : World) (dT sT ty elem : TypeId) (k g n dCap : Nat) (a : Addr) (sCap : Nat) (cur : Array Value) (t : TypeId) (cs : List Value)
    (hu : P.underlying dT = some (.slice elem)) (hs : (P.info? elem).map (·.size) = some k)
    (hg : w.heap[g]? = some (.cells cur t (0, 0))) (hc : cs.length = n * k) (hz : cur.size = cs.length)
    (hsrc : ∀ j v, cs[j]? = some v → w.cell? (a.add j) = some v) (h1 : ∀ v ∈ cs, v.oneCell' = true) :
    (Builtin.copy_ #[dT, sT] ty #[.slice (some ⟨g, 0, none⟩) n dCap, .slice (some a) n sCap]).run P w = .ok (goInt n) (w.setRow g cs.toArray) := by
  have hl := run_loadCells_list (P := P) w a cs hsrc
  have hst := run_storeCells_at P g 0 t cs 0 cur w hg (by omega) h1
  have hst2 : (cur.toList.take 0 ++ cs ++ cur.toList.drop (0 + 0 + cs.length)).toArray = cs.toArray := by
    rw [List.drop_of_length_le (by simp; omega)]; simp
  have hst3 : (storeCells ⟨g, 0, none⟩ cs 0).run P w = .ok () (w.setRow g cs.toArray) := by rw [hst]; congr 2
  cases hq : P.info? elem with
  | none => simp [hq] at hs
  | some i =>
    have hi : i.size = k := by simpa [hq] using hs
    simp [Builtin.copy_, run_underlying hu, Builtin.lenOf, Builtin.firstCells, sizeOf, typeInfo, hq, hi, ← hc, hl, hst3]
theorem wpList_copy_whole {P : Program} {w : World} {ops : Array Oper} {rest : List Oper} {o : Oper} {a : Act} {Q : Exit → Act → World → Prop} (hgd : o.guard = none) (d s : Operand) (dT sT : TypeId)
    (ho : o.op = .call { callee := .builtin .copy, args := #[d, s], argTypes := #[dT, sT] }) (elem : TypeId) (k : Nat) (hu : P.underlying dT = some (.slice elem)) (hsz : (P.info? elem).map (·.size) = some k)
    (g n dCap : Nat) (ad : Addr) (sCap : Nat) (hd : a.eval d = .slice (some ⟨g, 0, none⟩) n dCap) (hs : a.eval s = .slice (some ad) n sCap)
    (cur : Array Value) (t : TypeId) (hg : w.heap[g]? = some (.cells cur t (0, 0))) (cs : List Value) (hc : cs.length = n * k) (hz : cur.size = cs.length)
    (hsrc : ∀ j v, cs[j]? = some v → w.cell? (ad.add j) = some v) (h1 : ∀ v ∈ cs, v.oneCell' = true)
    (h : ∀ w', w' = w.setRow g cs.toArray → wpList P ops Q rest (a.put o.dst (goInt n)) w') : wpList P ops Q (o :: rest) a w := by
  refine wpList_plain hgd fun K hK => ?_
  have hrun := run_copy_whole (P := P) w dT sT o.type elem k g n dCap ad sCap cur t cs hu hsz hg hc hz hsrc h1
  unfold Oper.wp
  simp [execOp, ho, resolve, invoke, builtin, hd, hs, hrun, Result.andThen]
  exact hK _ _ (h _ rfl)
theorem copy_op {P : Program} {w : World} {ops : Array Oper} {rest : List Oper} {a : Act} {Q : Exit → Act → World → Prop} (dst : Option Tmp) (d s : Operand) (dT sT : TypeId) {t' : TypeId} {pos : String} {after : Array Edge}
    (elem : TypeId) (k : Nat) (hu : P.underlying dT = some (.slice elem)) (hsz : (P.info? elem).map (·.size) = some k)
    (g n dCap : Nat) (ad : Addr) (sCap : Nat) (hd : a.eval d = .slice (some ⟨g, 0, none⟩) n dCap) (hs : a.eval s = .slice (some ad) n sCap)
    (cur : Array Value) (t : TypeId) (hg : w.heap[g]? = some (.cells cur t (0, 0))) (cs : List Value) (hc : cs.length = n * k) (hz : cur.size = cs.length)
    (hsrc : ∀ j v, cs[j]? = some v → w.cell? (ad.add j) = some v) (h1 : ∀ v ∈ cs, v.oneCell' = true)
    (h : ∀ w', w' = w.setRow g cs.toArray → wpList P ops Q rest (a.put dst (goInt n)) w') :
    wpList P ops Q (⟨dst, .call { callee := .builtin .copy, args := #[d, s], argTypes := #[dT, sT] }, t', pos, after, none⟩ :: rest) a w :=
  wpList_copy_whole rfl d s dT sT rfl elem k hu hsz g n dCap ad sCap hd hs cur t hg cs hc hz hsrc h1 h
/-- the row that was made, and the other blocks -/
theorem made_facts {w3 w1 : World} {H n : Nat} {o0 o1 o2 : Obj} {xs : List Value} (r0 : w3.heap[H]? = some o0) (r1 : w3.heap[H + 1]? = some o1) (r2 : w3.heap[H + 1 + 1]? = some o2) (hg : w3.grownBy w1 none)
    (ho : w1.ownsRow (H + 1 + 1 + 1) 69 3 (.slice (some ⟨H + 1 + 1 + 1, 0, none⟩) n n) n xs) :
    w1.heap[H]? = some o0 ∧ w1.heap[H + 1]? = some o1 ∧ w1.heap[H + 1 + 1]? = some o2 ∧ ∃ cur, w1.heap[H + 1 + 1 + 1]? = some (.cells cur 69 (0, 0)) ∧ cur.size = n * 3 ∧ n ≤ maxLen := by
  refine ⟨(hg.block H (lt_of_block r0) (by simp)).trans r0, (hg.block _ (lt_of_block r1) (by simp)).trans r1, (hg.block _ (lt_of_block r2) (by simp)).trans r2, ?_⟩
  rcases ho.2 with ⟨h, _⟩ | ⟨g, cap, cur, hv, hb, hg, h1, h2, h3, h4⟩
  · cases h
  · cases hv
    exact ⟨cur, hg, h3, h2⟩
/-- .. behind the copy -/
theorem copied_facts {w w1 w2 : World} {H n : Nat} {o0 o1 o2 : Obj} {cur : Array Value} {C : List Value} (r0 : w1.heap[H]? = some o0) (r1 : w1.heap[H + 1]? = some o1) (r2 : w1.heap[H + 1 + 1]? = some o2) (hg : w1.heap[H + 1 + 1 + 1]? = some (.cells cur 69 (0, 0))) (hn : n ≤ maxLen) (hC : C.length = n * 3)
    (hb : Below H w w1) (e : w2 = w1.setRow (H + 1 + 1 + 1) C.toArray) :
    w2.heap[H]? = some o0 ∧ w2.heap[H + 1]? = some o1 ∧ w2.heap[H + 1 + 1]? = some o2 ∧ w2.ownsRow (H + 1 + 1 + 1) 69 3 (.slice (some ⟨H + 1 + 1 + 1, 0, none⟩) n n) n C ∧ Below H w w2 := by
  subst e
  refine ⟨(setRow_other _ _ _ _ (by omega)).trans r0, (setRow_other _ _ _ _ (by omega)).trans r1, (setRow_other _ _ _ _ (by omega)).trans r2, ⟨hC, .inr ⟨_, n, C.toArray, rfl, Nat.le_refl _, setRow_heap _ _ _ _ _ _ hg, Nat.le_refl _, hn, by simpa using hC, ?_⟩⟩, below_setRow hb (by omega) _⟩
  rw [← hC]
  simp
theorem put_there {w : World} {B g n c k : Nat} {F : Nat → Prop} {C : List Value} {Z : List Zone} {W : World} (ho : w.ownsRow B 69 3 (.slice (some ⟨g, 0, none⟩) n c) n C) (hz : ZCells W F C Z) (hk : k < Z.length) : w.there g (k * 3) 3 := by
  obtain ⟨u0, u1, u2, p0, p1, p2⟩ := three_cells ho hz hk
  intro j hj
  have hf := owns_free5 ho (k * 3 + j)
  have : j = 0 ∨ j = 1 ∨ j = 2 := by omega
  rcases this with rfl | rfl | rfl
  · exact ⟨by rw [Nat.add_zero, p0]; rfl, hf⟩
  · exact ⟨by rw [p1]; rfl, hf⟩
  · exact ⟨by rw [p2]; rfl, hf⟩
theorem put_end {w w2 : World} {F : Nat → Prop} {len k : Nat} {C : List Value} {Z : List Zone} {st du : Int} {L : List ByteArray} {sa : Option Addr} {sl sc : Nat} {o0 o2 : Obj}
    (q0 : w2.heap[w.heap.size]? = some o0) (q2 : w2.heap[w.heap.size + 1 + 1]? = some o2)
    (ho : w2.ownsRow (w.heap.size + 1 + 1 + 1) 69 3 (.slice (some ⟨w.heap.size + 1 + 1 + 1, 0, none⟩) len len) len C) (hz : ZCells w F C Z) (hk : k < Z.length) (b2 : Below w.heap.size w w2)
    (hs : StrsIn w F sa sl sc L) (w9 : World) (e : w9 = w2.setCells (w.heap.size + 1 + 1 + 1) (k * 3) [.int .i64 st, .int .i64 du, .slice sa sl sc]) :
    w9.heap[w.heap.size]? = some o0 ∧ (∀ u, (w9.setCell ⟨w.heap.size, 3, none⟩ u).heap[w.heap.size + 1 + 1]? = some o2) ∧ ∀ u cs, ZonesIn ((w9.setCell ⟨w.heap.size, 3, none⟩ u).setRow (w.heap.size + 1 + 1) cs) (Plus F w.heap.size) (some ⟨w.heap.size + 1 + 1 + 1, 0, none⟩) len len (Z.set k ⟨st, du, L⟩) ∧ Below w.heap.size w ((w9.setCell ⟨w.heap.size, 3, none⟩ u).setRow (w.heap.size + 1 + 1) cs) := by
  generalize hg7 : w.heap.size + 1 + 1 + 1 = g7 at *
  have e : w9 = ((w2.setCell ⟨g7, k * 3, none⟩ (.int .i64 st)).setCell ⟨g7, k * 3 + 1, none⟩ (.int .i64 du)).setCell ⟨g7, k * 3 + 1 + 1, none⟩ (.slice sa sl sc) := e
  have o9 := owns_cell (owns_cell (owns_cell ho (k * 3) (.int .i64 st)) (k * 3 + 1) (.int .i64 du)) (k * 3 + 1 + 1) (.slice sa sl sc)
  have b9 := ((b2.setCell (show w.heap.size ≤ (⟨g7, k * 3, none⟩ : Addr).block by show w.heap.size ≤ g7; omega) (.int .i64 st)).setCell (show w.heap.size ≤ (⟨g7, k * 3 + 1, none⟩ : Addr).block by show w.heap.size ≤ g7; omega) (.int .i64 du)).setCell (show w.heap.size ≤ (⟨g7, k * 3 + 1 + 1, none⟩ : Addr).block by show w.heap.size ≤ g7; omega) (.slice sa sl sc)
  have hfar : ∀ j, j ≠ g7 → (((w2.setCell ⟨g7, k * 3, none⟩ (.int .i64 st)).setCell ⟨g7, k * 3 + 1, none⟩ (.int .i64 du)).setCell ⟨g7, k * 3 + 1 + 1, none⟩ (.slice sa sl sc)).heap[j]? = w2.heap[j]? := fun j hj =>
    (Below.heap_setCell _ _ _ j hj).trans ((Below.heap_setCell _ _ _ j hj).trans (Below.heap_setCell _ _ _ j hj))
  rw [← e] at o9 b9 hfar
  clear e
  refine ⟨(hfar _ (by omega)).trans q0, fun u => (Below.heap_setCell w9 ⟨w.heap.size, 3, none⟩ u (w.heap.size + 1 + 1) (show w.heap.size + 1 + 1 ≠ w.heap.size by omega)).trans ((hfar _ (by omega)).trans q2), fun u cs => ?_⟩
  have b10 := below_setRow (b9.setCell (show w.heap.size ≤ (⟨w.heap.size, 3, none⟩ : Addr).block from Nat.le_refl _) u) (show w.heap.size ≤ w.heap.size + 1 + 1 by omega) cs
  refine ⟨?_, b10⟩
  have o10 := owns_other (H := w.heap.size + 1 + 1) (cs := cs) (ownsRow_setCell_other o9 (a := ⟨w.heap.size, 3, none⟩) (fun e => by have := Option.some.inj (show some g7 = some w.heap.size from e); omega) u) (by omega)
  obtain ⟨-, a', cap', heq, h⟩ := owns_zones (F := Plus F w.heap.size) o10 (((hz.set k hk ⟨st, du, L⟩ hs).on (Agree.below b10)).mono (fun _ _ hb => .inl hb)) (fun b e => .inr (by have := Option.some.inj (show some g7 = some b from e); omega))
  cases heq
  exact h
end Go.Proofs.Ythhggiifbldaeaa

/- Lemmas for the walk of the law's made: what is known of a state in the making. -/
namespace Go.Proofs.Ythhggiifbldaeaa.VicMath
open ZnsMath
theorem new_ok {n : Nat} {s : Int} (h1 : 3 ≤ n) (h2 : n ≤ 32) (h3 : 3 ≤ s) (h4 : s ≤ 64) : newE (n : Int) s 3 3 = 0 := by
  unfold newE
  rw [if_neg (by omega)]
  have hl : (newD (n : Int) s 3 3).zones = List.replicate n empty := by simp [newD]
  have hr : rightsB (List.replicate n empty) s = true := by
    unfold rightsB
    rw [List.all_eq_true]
    intro z hz
    obtain ⟨_, rfl⟩ := List.mem_replicate.1 hz
    unfold rightB empty
    simp [sizesB]
    omega
  have hc1 : countO (List.replicate n empty) = 0 := by
    unfold countO
    rw [List.length_eq_zero_iff, List.filter_eq_nil_iff]
    intro z hz
    obtain ⟨_, rfl⟩ := List.mem_replicate.1 hz
    decide
  have hc2 : countA (List.replicate n empty) = 0 := by
    unfold countA
    rw [List.length_eq_zero_iff, List.filter_eq_nil_iff]
    intro z hz
    obtain ⟨_, rfl⟩ := List.mem_replicate.1 hz
    decide
  unfold checkE
  rw [hl, show (newD (n : Int) s 3 3).size = s from rfl, show (newD (n : Int) s 3 3).maxOpen = 3 from rfl, show (newD (n : Int) s 3 3).maxActive = 3 from rfl, hr, hc1, hc2]
  have hcf : configB (newD (n : Int) s 3 3) = true := by
    unfold configB
    rw [hl, show (newD (n : Int) s 3 3).size = s from rfl, show (newD (n : Int) s 3 3).maxOpen = 3 from rfl, show (newD (n : Int) s 3 3).maxActive = 3 from rfl, List.length_replicate]
    simp
    omega
  rw [hcf]
  simp
end Go.Proofs.Ythhggiifbldaeaa.VicMath
namespace Go.Proofs.Ythhggiifbldaeaa.Ents
open Go.RowKit Plan ZnsMath EntMath CntMath EpoMath LayMath VicMath
theorem own_base {W : World} {B B' sz n : Nat} {t : TypeId} {v : Value} {xs : List Value} (h : W.ownsRow B t sz v n xs) (hB : B' ≤ B) : W.ownsRow B' t sz v n xs := by
  refine ⟨h.1, ?_⟩
  rcases h.2 with h1 | ⟨g, cap, cur, e1, e2, e3⟩
  · exact .inl h1
  · exact .inr ⟨g, cap, cur, e1, by omega, e3⟩
theorem mk_start {W : World} {q g zn B : Nat} {bx : List Nat} {S : Sv} {E : Epo} {CV : List Value} (h1 : slV S.zA S.zN S.zC = .slice (some ⟨g, 0, none⟩) zn zn) (h1' : S.zN = zn) (h2 : slV S.lA S.lN S.lC = .slice none 0 0) (h2' : S.lN = 0) (h3 : slV S.pA S.pN S.pC = .slice none 0 0) (h3' : S.pN = 0)
    (ow : W.ownsRow (q + 1) 69 3 (.slice (some ⟨g, 0, none⟩) zn zn) zn CV) (hC : ZCells W (Fr q bx S) CV (List.replicate zn empty)) (le : PList W (fun b => B ≤ b) S.eg S.iA S.iN S.iC S.rA S.rN S.rC E) (hq : q < B) (hg : g < B) (hb : ∀ b ∈ bx, b < B) (hne : ∀ b ∈ bx, b ≠ g) :
    MkL W q bx S (List.replicate zn empty) ⟨[], []⟩ E CV := by
  have n2 : ∀ b, (slV S.lA S.lN S.lC).ownBlock ≠ some b := by
    rw [h2]
    intro b e
    cases e
  have n3 : ∀ b, (slV S.pA S.pN S.pC).ownBlock ≠ some b := by
    rw [h3]
    intro b e
    cases e
  have n1 : ∀ b, (slV S.zA S.zN S.zC).ownBlock = some b → b = g := by
    rw [h1]
    intro b e
    exact (Option.some.inj (show some g = some b from e)).symm
  have o2 : W.ownsRow (q + 1) 3 1 (slV S.lA S.lN S.lC) S.lN (intC []) := by
    rw [h2, h2']
    exact World.ownsRow_nil _ _ _ _
  have o3 : W.ownsRow (q + 1) 3 1 (slV S.pA S.pN S.pC) S.pN (intC []) := by
    rw [h3, h3']
    exact World.ownsRow_nil _ _ _ _
  exact ⟨by rw [h1, h1']; exact ow, hC, o2, o3, le.mono fun b _ h => ⟨by have h9 : B ≤ b := h; omega, fun hm => by have h9 : B ≤ b := h; have := hb b hm; omega, fun e => by have h9 : B ≤ b := h; have := n1 b e; omega, n2 b, n3 b⟩, fun b hb9 => absurd hb9 (n2 b), fun b hb9 => ⟨fun e => hne b hb9 (n1 b e), n2 b, n3 b⟩⟩
/-- what is known of a state in the making -/
structure MadeF (LL : List Int) (zn i : Nat) (cs cb cq cd ch k3 : Int) (g : Nat) (S : Sv) (Z : List Zone) (C : Cnt) (E : Epo) : Prop where
  conf : S.cz = (zn : Int) ∧ S.cs = cs ∧ S.cb = cb ∧ S.cq = cq ∧ S.cd = cd ∧ S.ch = ch
  dev : S.ds = cs ∧ S.zA = some ⟨g, 0, none⟩ ∧ S.zN = zn ∧ Z.length = zn
  cnt : S.lN = i ∧ S.pN = i ∧ C.live.length = i ∧ C.pend.length = i
  lane : S.h = (zn : Int) - 1 - k3 ∧ S.k = -1
  live : ∀ (j : Nat) l, C.live[j]? = some l → 0 ≤ l ∧ l ≤ cs
  few : ∀ (j : Nat) z, Z[j]? = some z → z.sectors.length ≤ 100
  ret : S.rN ≤ i
  none : LL = [] → Z = List.replicate zn empty ∧ C.live = List.replicate i 0 ∧ C.pend = List.replicate i 0 ∧ E.zones = []
def RSt : Rws.Row ByteArray := ⟨9, 67, 1, 16, .string ByteArray.empty, fun s => [.string s]⟩
theorem rsOk : RSt.Ok := ⟨fun _ => rfl, fun e u hu => by simp only [RSt, List.mem_cons, List.not_mem_nil, or_false] at hu; subst hu; rfl, by decide, by kernel_rfl, rfl, Try.underlying67, by decide⟩
theorem rs_all (L : List ByteArray) : RSt.all L = strs L := by
  induction L with
  | nil => rfl
  | cons e L ih => rw [Rws.all_cons, ih]; rfl
theorem strl_info : (Try.prog.info? 67).map (·.size) = some 1 := by kernel_rfl
theorem MkL.sub {W : World} {q : Nat} {bx bx' : List Nat} {S : Sv} {Z : List Zone} {C : Cnt} {E : Epo} {CV : List Value} (M : MkL W q bx S Z C E CV) (hs : ∀ b ∈ bx', b ∈ bx) : MkL W q bx' S Z C E CV := by
  have hF : ∀ b, b < W.heap.size → Fr q bx S b → Fr q bx' S b := fun b _ h => ⟨h.1, fun hm => h.2.1 (hs b hm), h.2.2⟩
  refine ⟨M.zo, ⟨M.zc.1, fun i z hi => ?_⟩, M.lo, M.po, M.eo.mono hF, M.ne, fun b hb => M.nb b (hs b hb)⟩
  obtain ⟨c1, c2, sa, sl, sc, c3, hst⟩ := M.zc.2 i z hi
  exact ⟨c1, c2, sa, sl, sc, c3, hst.mono hF⟩
/-- a list in a block of its own grows -/
theorem MkL.app {W W' : World} {q X g' : Nat} {bx : List Nat} {S : Sv} {Z : List Zone} {C : Cnt} {E : Epo} {CV : List Value} {v : Value} (M : MkL W q (X :: bx) S Z C E CV) (hX : ∀ b, v.ownBlock = some b → b = X) (hg : W.grownBy W' v.ownBlock) (hat : v.ownBlock = some g' ∨ g' = W.heap.size) : MkL W' q (g' :: bx) S Z C E CV := by
  by_cases h : v.ownBlock = some g'
  · obtain rfl := hX _ h
    exact M.touch hg (fun z hz => by rw [h] at hz; obtain rfl := Option.some.inj hz; exact .inr (.head _))
  · have e : g' = W.heap.size := hat.resolve_left h
    have M1 := (M.more (x := g') (Nat.le_of_eq e.symm)).touch hg (fun z hz => .inr (by rw [hX _ hz]; exact .tail _ (.head _)))
    refine M1.sub fun b hb => ?_
    rcases List.mem_cons.1 hb with rfl | hb
    · exact .head _
    · exact .tail _ (.tail _ hb)
theorem build_str {a : Act} {w : World} {s : ByteArray} (x : Nat) (o : Oper) (ho : o.op = .buildSlice 67 1 #[(0, .tmp x)]) (hx : a.eval (.tmp x) = .string s) : (execOp a.eval o).run Try.prog w = .ok (.value (.slice (some ⟨w.heap.size, 0, none⟩) 1 1)) (w.alloc (.cells #[.string s] 9 (0, 0))) := by
  obtain ⟨dst, op, t, pos, after, guard⟩ := o
  have ho' : op = .buildSlice 67 1 #[(0, .tmp x)] := ho
  clear ho
  subst ho'
  have hx2 : a.tmps[x]?.getD undef = .string s := by rw [← hx]; simp [Act.eval, Array.getD_eq_getD_getElem?]
  go_simp
/-- a state of zeros -/
abbrev st0 : Sv := { cz := 0, cs := 0, cb := 0, cq := 0, cd := 0, ch := 0, ds := 0, dm := 0, da := 0, zA := none, zN := 0, zC := 0, mA := none, mN := 0, mC := 0, lA := none, lN := 0, lC := 0, pA := none, pN := 0, pC := 0, oA := none, oN := 0, oC := 0, eg := 0, iA := none, iN := 0, iC := 0, rA := none, rN := 0, rC := 0, fA := none, fN := 0, fC := 0, h := 0, k := 0, gA := none, gN := 0, gC := 0, wA := none, wN := 0, wC := 0, x0 := 0, x1 := 0, x2 := 0, x3 := 0, x4 := 0, x5 := 0, x6 := 0, x7 := 0, x8 := 0, x9 := 0, x10 := 0, y0 := 0, y1 := 0, y2 := 0, y3 := 0, y4 := 0, y5 := 0, eA := none, eN := 0, eC := 0, sA := none, sN := 0, sC := 0, n0 := 0, n1 := 0, n2 := 0, n3 := 0, want := false, closed := false, vA := none, vN := 0, vC := 0 }
theorem vd4 {w : World} {g : Nat} {a b c d : Value} {t : TypeId} {fr : Nat × Nat} (h : w.heap[g]? = some (.cells #[a, b, c, d] t fr)) : w.cell? ⟨g, 0, none⟩ = some a ∧ w.cell? ⟨g, 1, none⟩ = some b ∧ w.cell? ⟨g, 2, none⟩ = some c ∧ w.cell? ⟨g, 3, none⟩ = some d := ⟨cell_of_row _ _ 0 _ _ _ h, cell_of_row _ _ 1 _ _ _ h, cell_of_row _ _ 2 _ _ _ h, cell_of_row _ _ 3 _ _ _ h⟩
theorem six_row {w : World} {g : Nat} {a b c d e f : Value} {t : TypeId} {fr : Nat × Nat} (h : w.heap[g]? = some (.cells #[a, b, c, d, e, f] t fr)) : w.cell? ⟨g, 0, none⟩ = some a ∧ w.cell? ⟨g, 1, none⟩ = some b ∧ w.cell? ⟨g, 2, none⟩ = some c ∧ w.cell? ⟨g, 3, none⟩ = some d ∧ w.cell? ⟨g, 4, none⟩ = some e ∧ w.cell? ⟨g, 5, none⟩ = some f := ⟨cell_of_row _ _ 0 _ _ _ h, cell_of_row _ _ 1 _ _ _ h, cell_of_row _ _ 2 _ _ _ h, cell_of_row _ _ 3 _ _ _ h, cell_of_row _ _ 4 _ _ _ h, cell_of_row _ _ 5 _ _ _ h⟩
def RIn : Rws.Row Int := ⟨3, 22, 1, 8, .int .i64 0, fun z => [.int .i64 z]⟩
theorem riOk : RIn.Ok := ⟨fun _ => rfl, fun e u hu => by simp only [RIn, List.mem_cons, List.not_mem_nil, or_false] at hu; subst hu; rfl, by decide, by kernel_rfl, rfl, Try.underlying22, by decide⟩
theorem ri_all (L : List Int) : RIn.all L = intC L := by
  induction L with
  | nil => rfl
  | cons e L ih => rw [Rws.all_cons, ih]; rfl
theorem build_int {a : Act} {w : World} {n : Int} (x : Nat) (o : Oper) (ho : o.op = .buildSlice 22 1 #[(0, .tmp x)]) (hx : a.eval (.tmp x) = .int .i64 n) : (execOp a.eval o).run Try.prog w = .ok (.value (.slice (some ⟨w.heap.size, 0, none⟩) 1 1)) (w.alloc (.cells #[.int .i64 n] 3 (0, 0))) := by
  obtain ⟨dst, op, t, pos, after, guard⟩ := o
  have ho' : op = .buildSlice 22 1 #[(0, .tmp x)] := ho
  clear ho
  subst ho'
  have hx2 : a.tmps[x]?.getD undef = .int .i64 n := by rw [← hx]; simp [Act.eval, Array.getD_eq_getD_getElem?]
  go_simp
theorem sector_size (r : RecMath.Rec) : (⟨(RecMath.encL r).toArray⟩ : ByteArray).size ≤ 40 := by
  rw [size_bytes]
  by_cases h : RecMath.checkE r = 0
  · rw [RecMath.enc_length h]; omega
  · rw [RecMath.enc_no h]; simp
theorem nxt_none (k : Nat) (n : Int) : nxt [] k n = 0 := if_neg (by simp)
abbrev bx4 (S : Sv) (T V C R g zn : Nat) (cs cb cq cd ch : Int) : List (Nat × Obj) := [(T, stRow S), (V, vdRow cs 3 3 (some ⟨g, 0, none⟩) zn zn), (C, confRow (zn : Int) cs cb cq cd ch), (R, stRow st0)]
abbrev S4 (zn g : Nat) (cs cb cq cd ch k3 : Int) : Sv := { cz := (zn : Int), cs := cs, cb := cb, cq := cq, cd := cd, ch := ch, ds := cs, dm := 3, da := 3, zA := some ⟨g, 0, none⟩, zN := zn, zC := zn, mA := none, mN := 0, mC := 0, lA := none, lN := 0, lC := 0, pA := none, pN := 0, pC := 0, oA := none, oN := 0, oC := 0, eg := 0, iA := none, iN := 0, iC := 0, rA := none, rN := 0, rC := 0, fA := none, fN := 0, fC := 0, h := (zn : Int) - 1 - k3, k := -1, gA := none, gN := 0, gC := 0, wA := none, wN := 0, wC := 0, x0 := 0, x1 := 0, x2 := 0, x3 := 0, x4 := 0, x5 := 0, x6 := 0, x7 := 0, x8 := 0, x9 := 0, x10 := 0, y0 := 0, y1 := 0, y2 := 0, y3 := 0, y4 := 0, y5 := 0, eA := none, eN := 0, eC := 0, sA := none, sN := 0, sC := 0, n0 := 0, n1 := 0, n2 := 0, n3 := 0, want := false, closed := false, vA := none, vN := 0, vC := 0 }
theorem MadeF.start (LL : List Int) {zn g : Nat} {cs cb cq cd ch k3 eg : Int} {ea eb : Option Addr} {en ec em ed : Nat} {E : Epo} (hE : E.zones = []) (hm : em ≤ 0) :
    MadeF LL zn 0 cs cb cq cd ch k3 g { S4 zn g cs cb cq cd ch k3 with eg := eg, iA := ea, iN := en, iC := ec, rA := eb, rN := em, rC := ed } (List.replicate zn empty) ⟨[], []⟩ E :=
  ⟨⟨rfl, rfl, rfl, rfl, rfl, rfl⟩, ⟨rfl, rfl, rfl, by simp⟩, ⟨rfl, rfl, rfl, rfl⟩, ⟨rfl, rfl⟩, fun j l h => by simp at h, fun j z h => by
    obtain ⟨_, rfl⟩ := List.getElem?_eq_some_iff.1 h
    simp [empty], hm, fun _ => ⟨rfl, rfl, rfl, hE⟩⟩
theorem MadeF.step {LL : List Int} {zn i g : Nat} {cs cb cq cd ch k3 : Int} {S : Sv} {Z : List Zone} {C : Cnt} {E : Epo} (F : MadeF LL zn i cs cb cq cd ch k3 g S Z C E) (hi : i < zn) {st du l p : Int} {L : List ByteArray} {S' : Sv} {E' : Epo}
    (h1 : S'.cz = S.cz ∧ S'.cs = S.cs ∧ S'.cb = S.cb ∧ S'.cq = S.cq ∧ S'.cd = S.cd ∧ S'.ch = S.ch) (h2 : S'.ds = S.ds ∧ S'.zA = S.zA ∧ S'.zN = S.zN) (h3 : S'.lN = S.lN + 1 ∧ S'.pN = S.pN + 1) (h4 : S'.h = S.h ∧ S'.k = S.k)
    (hl : 0 ≤ l ∧ l ≤ cs) (hL : L.length ≤ 100) (hr : S'.rN ≤ i + 1) (hn : LL = [] → st = 0 ∧ du = 0 ∧ L = [] ∧ l = 0 ∧ p = 0 ∧ E'.zones = []) :
    MadeF LL zn (i + 1) cs cb cq cd ch k3 g S' (Z.set i ⟨st, du, L⟩) ⟨C.live ++ [l], C.pend ++ [p]⟩ E' := by
  obtain ⟨a1, a2, a3, a4, a5, a6⟩ := F.conf
  obtain ⟨b1, b2, b3, b4⟩ := F.dev
  obtain ⟨c1, c2, c3, c4⟩ := F.cnt
  refine ⟨⟨h1.1.trans a1, h1.2.1.trans a2, h1.2.2.1.trans a3, h1.2.2.2.1.trans a4, h1.2.2.2.2.1.trans a5, h1.2.2.2.2.2.trans a6⟩, ⟨h2.1.trans b1, h2.2.1.trans b2, h2.2.2.trans b3, by rw [List.length_set]; exact b4⟩, ⟨by omega, by omega, by simp; omega, by simp; omega⟩, ⟨h4.1.trans F.lane.1, h4.2.trans F.lane.2⟩, fun j x hx => ?_, fun j z hz => ?_, hr, fun h0 => ?_⟩
  · rw [List.getElem?_append] at hx
    split at hx
    · exact F.live j x hx
    · obtain ⟨h5, h6⟩ := List.getElem?_eq_some_iff.1 hx
      simp at h5
      simp [h5] at h6
      omega
  · rw [List.getElem?_set] at hz
    split at hz
    · split at hz
      · obtain rfl := Option.some.inj hz
        exact hL
      · cases hz
    · exact F.few j z hz
  · obtain ⟨e1, e2, e3, e4⟩ := F.none h0
    obtain ⟨f1, f2, f3, f4, f5, f6⟩ := hn h0
    subst f1 f2 f3 f4 f5
    refine ⟨?_, by rw [e2, List.replicate_succ'], by rw [e3, List.replicate_succ'], f6⟩
    rw [e1]
    apply List.ext_getElem?
    intro j
    rw [List.getElem?_set, List.length_replicate]
    split
    · rename_i h9
      subst h9
      first
        | rw [if_pos hi, List.getElem?_replicate, if_pos hi]
        | rw [List.getElem?_replicate, if_pos hi]
      rfl
    · rfl
theorem mk_strs {w : World} {B n c : Nat} {a : Option Addr} {L : List ByteArray} {F : Nat → Prop} (ow : w.ownsRow B RSt.et RSt.sz (.slice a n c) n (RSt.all L)) (hs : ∀ s ∈ L, s.size ≤ 40) (hF : ∀ b, (Value.slice a n c).ownBlock = some b → F b) : StrsIn w F a n c L ∧ L.length = n := by
  rw [rs_all] at ow
  have ow' : w.ownsRow B 9 1 (.slice a n c) n (strs L) := ow
  obtain ⟨hl, a', cap, e, hi⟩ := owns_strs ow' (fun s h => Nat.le_trans (hs s h) (by unfold maxLen; omega))
  cases e
  refine ⟨⟨hi, fun h0 x hx => ?_⟩, hl⟩
  rcases ow'.2 with ⟨hv, h9⟩ | ⟨g, cc, cur, hv, _⟩
  · cases hv
    omega
  · cases hv
    obtain rfl := Option.some.inj hx
    exact hF g rfl
theorem BxD.tail {w W : World} {x : Nat × Obj} {B : List (Nat × Obj)} {base q : Nat} {L : List Int} {k : Nat} (K : BxD w W (x :: B) base q L k) : BxD w W B base q L k :=
  ⟨⟨fun y hy => K.bx.at' y (.tail _ hy), fun y hy => K.bx.lo y (.tail _ hy), (List.nodup_cons.1 (by have := K.bx.nd; rwa [List.map_cons] at this)).2, K.bx.hb⟩, K.dd, K.lo, fun y hy => K.ap y (.tail _ hy)⟩
theorem BxD.below {w W : World} {B : List (Nat × Obj)} {base q : Nat} {L : List Int} {k : Nat} (K : BxD w W B base q L k) : ∀ b ∈ B.map (·.1), b < W.heap.size := fun b hb => by
  obtain ⟨x, hx, rfl⟩ := List.mem_map.1 hb
  exact e_lt (K.bx.at' x hx)
section
variable {w W W' : World} {B : List (Nat × Obj)} {base q k : Nat} {LL : List Int} {S : Sv} {Z : List Zone} {C : Cnt} {E : Epo} {CV : List Value}
theorem BxD.cells (K : BxD w W B base q LL k) (M : MkL W q (B.map (·.1)) S Z C E CV) {g : Nat} (hg : S.zA = some ⟨g, 0, none⟩) (o : Nat) (vs : List Value) : BxD w (W.setCells g o vs) B base q LL k := by
  have e : (slV S.zA S.zN S.zC).ownBlock = some g := by unfold slV; rw [hg]; rfl
  refine K.grown (cells_grown g vs o W) fun z hz => ?_
  obtain rfl := Option.some.inj hz
  exact ⟨by have := (M.zo.lt _ e).1; omega, fun x hx h => (M.nb x.1 (List.mem_map_of_mem hx)).1 (by rw [h]; exact e)⟩
theorem BxD.live (K : BxD w W B base q LL k) (M : MkL W q (B.map (·.1)) S Z C E CV) (hg : W.grownBy W' (slV S.lA S.lN S.lC).ownBlock) : BxD w W' B base q LL k :=
  K.grown hg fun z hz => ⟨by have := (M.lo.lt z hz).1; omega, fun x hx h => (M.nb x.1 (List.mem_map_of_mem hx)).2.1 (by rw [h]; exact hz)⟩
theorem BxD.pend (K : BxD w W B base q LL k) (M : MkL W q (B.map (·.1)) S Z C E CV) (hg : W.grownBy W' (slV S.pA S.pN S.pC).ownBlock) : BxD w W' B base q LL k :=
  K.grown hg fun z hz => ⟨by have := (M.po.lt z hz).1; omega, fun x hx h => (M.nb x.1 (List.mem_map_of_mem hx)).2.2 (by rw [h]; exact hz)⟩
/-- the blocks of what a call gave are no boxes and no lists of the making -/
theorem MkL.fresh (M : MkL W q (B.map (·.1)) S Z C E CV) (K : BxD w W B base q LL k) : ∀ b, (Fr q (B.map (·.1)) S b ∨ W.heap.size ≤ b) → Fr q (B.map (·.1)) S b := fun b hb => by
  rcases hb with hb | hb
  · exact hb
  · have hq := dice_lt K.dd
    exact ⟨by omega, fun hm => by have := K.below b hm; omega, fun e => by have := (M.zo.lt b e).2; omega, fun e => by have := (M.lo.lt b e).2; omega, fun e => by have := (M.po.lt b e).2; omega⟩
end
theorem ret_len (E : Epo) (z : Int) : (retireE E z).zones.length ≤ E.zones.length + 1 := by
  unfold retireE
  split
  · simp
  · omega
def MadePost (w : World) (LL : List Int) (r : Ending) (w' : World) : Prop :=
  ∃ (q zn g : Nat) (cs cb cq cd ch k3 : Int) (S : Sv) (Z : List Zone) (Cn : Cnt) (E : Epo) (CV : List Value), r = .returned (stV S) ∧ Below w.heap.size w w' ∧ w.heap.size ≤ q ∧ (8 ≤ zn ∧ zn ≤ 14) ∧ (3 ≤ cs ∧ cs ≤ 6) ∧ (0 ≤ k3 ∧ k3 ≤ 2) ∧ (LL = [] → k3 = 0) ∧
    (smZ LL 0 = (zn : Int) ∧ smS LL 0 = cs ∧ smB LL 0 = cb ∧ smQ LL 0 = cq ∧ smD LL 0 = cd ∧ smH LL 0 = ch) ∧ MkL w' q [] S Z Cn E CV ∧ MadeF LL zn zn cs cb cq cd ch k3 g S Z Cn E
end Go.Proofs.Ythhggiifbldaeaa.Ents

/- The walks of the program's online, Reset, Finish, Close, Read. -/
namespace Go.Proofs.Ythhggiifbldaeaa
open Go.RowKit Plan ZnsMath

theorem begin_cases {D : Dev} {k : Int} (h : beginE D k ≠ 0) : zoneE D k ≠ 0 ∧ beginE D k = zoneE D k ∨ beginE D k = 6 ∧ ∃ i : Nat, k = (i : Int) ∧ i < D.zones.length ∧ checkE D = 0 ∧ stateAt D k = 5 := by
  unfold beginE at h ⊢
  by_cases h1 : zoneE D k ≠ 0
  · exact .inl ⟨h1, by rw [if_pos h1]⟩
  · rw [if_neg h1] at h ⊢
    have h3 := zoneE_of (show zoneE D k = 0 by omega)
    by_cases h4 : stateAt D k = 5
    · exact .inr ⟨by rw [if_pos h4], k.toNat, by omega, by omega, h3.1, h4⟩
    · rw [if_neg h4] at h; exact absurd rfl h
end Go.Proofs.Ythhggiifbldaeaa

/- The walks of the program's Finish, Close, Read, New. -/
namespace Go.Proofs.Ythhggiifbldaeaa
open Go.RowKit Plan ZnsMath

theorem withZ_same {D : Dev} {i : Nat} {z : Zone} (h : D.zones[i]? = some z) : withZ D i z = D := by
  have : D.zones.set i z = D.zones := by
    obtain ⟨hi, e⟩ := List.getElem?_eq_some_iff.1 h
    subst e
    exact List.set_getElem_self hi
  unfold withZ
  rw [this]
end Go.Proofs.Ythhggiifbldaeaa

/- The walk of the program's search for an open zone, and of making room. -/
namespace Go.Proofs.Ythhggiifbldaeaa
open Go.RowKit Plan ZnsMath

end Go.Proofs.Ythhggiifbldaeaa

/- The walks of the program's admit and Open. -/
namespace Go.Proofs.Ythhggiifbldaeaa
open Go.RowKit Plan ZnsMath

/-- what admit answers -/
def admE (D : Dev) (i : Nat) : Int := if stateAt D (i : Int) = 5 then 6 else if stateAt D (i : Int) = 4 then 7 else if openB (stateAt D (i : Int)) = true then 0 else roomE D i
def admR (D : Dev) (i : Nat) : Dev := if stateAt D (i : Int) = 5 then D else if stateAt D (i : Int) = 4 then D else if openB (stateAt D (i : Int)) = true then D else roomR D i
/-- making room leaves the zone for which it is made -/
theorem ready_at {D : Dev} {i : Nat} {z : Zone} (h : D.zones[i]? = some z) : (ready D (i : Int)).zones[i]? = some z := by
  unfold ready
  rw [stateAt_of h]
  cases ho : openB z.state with
  | true => rw [if_pos rfl]; exact h
  | false =>
    rw [if_neg (by decide), Int.toNat_natCast]
    unfold roomR
    split
    · unfold cleared
      split
      · unfold withZ
        by_cases hf : firstOpen D.zones = i
        · have := first_eq D.zones z (by rw [hf]; exact h)
          rw [this] at ho
          cases ho
        · simp only [List.getElem?_set_ne hf]
          exact h
      · exact h
    · exact h
theorem ready_size (D : Dev) (k : Int) : (ready D k).size = D.size := by
  unfold ready
  split
  · rfl
  · unfold roomR
    split
    · unfold cleared
      split <;> rfl
    · rfl
theorem admR_ready {D : Dev} {i : Nat} (h : admE D i = 0) : admR D i = ready D (i : Int) := by
  unfold admE at h
  unfold admR ready
  by_cases h5 : stateAt D (i : Int) = 5
  · rw [if_pos h5] at h; cases h
  · rw [if_neg h5] at h ⊢
    by_cases h4 : stateAt D (i : Int) = 4
    · rw [if_pos h4] at h; cases h
    · rw [if_neg h4, Int.toNat_natCast]
end Go.Proofs.Ythhggiifbldaeaa

/- The walk of the program's Open. -/
namespace Go.Proofs.Ythhggiifbldaeaa
open Go.RowKit Plan ZnsMath

end Go.Proofs.Ythhggiifbldaeaa
