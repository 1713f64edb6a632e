/- Texts that belong together, part 7. -/
import Derived.Test.YthhggiifbldaeaaPack6
import Derived.Laws.BitsAllLaws
import Derived.Laws.BitsLemmas
import Derived.WalkSpells
import Derived.Deep.AppendLies
import Derived.OwnWalk
import Derived.WalkKit
import Derived.WalkMore
import Derived.Lib.Hide

/- The index of a list and the store of a number there, as one step. -/
namespace Go.Proofs.Ythhggiifbldaeaa.Put
open Go.RowKit
theorem idx_store_int {ops : Array Oper} {rest : List Oper} {a : Act} {w : World} {Q : Exit → Act → World → Prop} (tt ty : TypeId) (d : Tmp) (s i y : Operand) {t1 t' : TypeId} {pos1 pos : String} {after1 after : Array Edge}
    (g o : Nat) (k : IntKind) (n : Int) (hv : (execOp a.eval ⟨some d, .indexAddr tt s i, t1, pos1, after1, none⟩).run Try.prog w = .ok (.value (.pointer (some ⟨g, o, none⟩))) w)
    (hx : (a.put (some d) (.pointer (some ⟨g, o, none⟩))).eval (.tmp d) = .pointer (some ⟨g, o, none⟩)) (hy : (a.put (some d) (.pointer (some ⟨g, o, none⟩))).eval y = .int k n) (hc : ∃ u, w.cell? ⟨g, o, none⟩ = some u) (hf : w.frozen? ⟨g, o, none⟩ = false) (hi : (Try.prog.info? ty).map (·.size) = some 1)
    (h : ∀ w', w' = w.setCell ⟨g, o, none⟩ (.int k n) → wpList Try.prog ops Q rest ((a.put (some d) (.pointer (some ⟨g, o, none⟩))).put none undef) w') :
    wpList Try.prog ops Q (⟨some d, .indexAddr tt s i, t1, pos1, after1, none⟩ :: ⟨none, .store ty (.tmp d) y, t', pos, after, none⟩ :: rest) a w :=
  wpList_plain rfl fun _ hK => by
    unfold Oper.wp
    rw [hv]
    exact hK _ _ (wpList_plain rfl fun _ hK => wp_store_int ty (.tmp d) y rfl g o k n hx hy hc hf hi (hK _ _ (h _ rfl)))
end Go.Proofs.Ythhggiifbldaeaa.Put

/- A state of the block device, as a value and as a row. -/
namespace Go.Proofs.Ythhggiifbldaeaa.Ents
open Go.RowKit Plan
/-- the cells of a state: config (cz to ch), device (ds dm da z), map (m), counts (l p), locks (o), epochs (eg i r), pool (f h k), rings (g), workers (w), cleaner (x0 to x10), saver (y0 to y5 with the base's e, s), next, serial, sequence, slot (n0 to n3), want, closed, events (v) -/
structure Sv where
  cz : Int
  cs : Int
  cb : Int
  cq : Int
  cd : Int
  ch : Int
  ds : Int
  dm : Int
  da : Int
  zA : Option Addr
  zN : Nat
  zC : Nat
  mA : Option Addr
  mN : Nat
  mC : Nat
  lA : Option Addr
  lN : Nat
  lC : Nat
  pA : Option Addr
  pN : Nat
  pC : Nat
  oA : Option Addr
  oN : Nat
  oC : Nat
  eg : Int
  iA : Option Addr
  iN : Nat
  iC : Nat
  rA : Option Addr
  rN : Nat
  rC : Nat
  fA : Option Addr
  fN : Nat
  fC : Nat
  h : Int
  k : Int
  gA : Option Addr
  gN : Nat
  gC : Nat
  wA : Option Addr
  wN : Nat
  wC : Nat
  x0 : Int
  x1 : Int
  x2 : Int
  x3 : Int
  x4 : Int
  x5 : Int
  x6 : Int
  x7 : Int
  x8 : Int
  x9 : Int
  x10 : Int
  y0 : Int
  y1 : Int
  y2 : Int
  y3 : Int
  y4 : Int
  y5 : Int
  eA : Option Addr
  eN : Nat
  eC : Nat
  sA : Option Addr
  sN : Nat
  sC : Nat
  n0 : Int
  n1 : Int
  n2 : Int
  n3 : Int
  want : Bool
  closed : Bool
  vA : Option Addr
  vN : Nat
  vC : Nat
abbrev stV (S : Sv) : Value := .agg #[.int .i64 S.cz, .int .i64 S.cs, .int .i64 S.cb, .int .i64 S.cq, .int .i64 S.cd, .int .i64 S.ch, .int .i64 S.ds, .int .i64 S.dm, .int .i64 S.da, .slice S.zA S.zN S.zC, .slice S.mA S.mN S.mC, .slice S.lA S.lN S.lC, .slice S.pA S.pN S.pC, .slice S.oA S.oN S.oC, .int .i64 S.eg, .slice S.iA S.iN S.iC, .slice S.rA S.rN S.rC, .slice S.fA S.fN S.fC, .int .i64 S.h, .int .i64 S.k, .slice S.gA S.gN S.gC, .slice S.wA S.wN S.wC, .int .i64 S.x0, .int .i64 S.x1, .int .i64 S.x2, .int .i64 S.x3, .int .i64 S.x4, .int .i64 S.x5, .int .i64 S.x6, .int .i64 S.x7, .int .i64 S.x8, .int .i64 S.x9, .int .i64 S.x10, .int .i64 S.y0, .int .i64 S.y1, .int .i64 S.y2, .int .i64 S.y3, .int .i64 S.y4, .int .i64 S.y5, .slice S.eA S.eN S.eC, .slice S.sA S.sN S.sC, .int .i64 S.n0, .int .i64 S.n1, .int .i64 S.n2, .int .i64 S.n3, .bool S.want, .bool S.closed, .slice S.vA S.vN S.vC]
abbrev stRow (S : Sv) : Obj := .cells #[.int .i64 S.cz, .int .i64 S.cs, .int .i64 S.cb, .int .i64 S.cq, .int .i64 S.cd, .int .i64 S.ch, .int .i64 S.ds, .int .i64 S.dm, .int .i64 S.da, .slice S.zA S.zN S.zC, .slice S.mA S.mN S.mC, .slice S.lA S.lN S.lC, .slice S.pA S.pN S.pC, .slice S.oA S.oN S.oC, .int .i64 S.eg, .slice S.iA S.iN S.iC, .slice S.rA S.rN S.rC, .slice S.fA S.fN S.fC, .int .i64 S.h, .int .i64 S.k, .slice S.gA S.gN S.gC, .slice S.wA S.wN S.wC, .int .i64 S.x0, .int .i64 S.x1, .int .i64 S.x2, .int .i64 S.x3, .int .i64 S.x4, .int .i64 S.x5, .int .i64 S.x6, .int .i64 S.x7, .int .i64 S.x8, .int .i64 S.x9, .int .i64 S.x10, .int .i64 S.y0, .int .i64 S.y1, .int .i64 S.y2, .int .i64 S.y3, .int .i64 S.y4, .int .i64 S.y5, .slice S.eA S.eN S.eC, .slice S.sA S.sN S.sC, .int .i64 S.n0, .int .i64 S.n1, .int .i64 S.n2, .int .i64 S.n3, .bool S.want, .bool S.closed, .slice S.vA S.vN S.vC] 58
abbrev stArr (S : Sv) : Array Value := #[.int .i64 S.cz, .int .i64 S.cs, .int .i64 S.cb, .int .i64 S.cq, .int .i64 S.cd, .int .i64 S.ch, .int .i64 S.ds, .int .i64 S.dm, .int .i64 S.da, .slice S.zA S.zN S.zC, .slice S.mA S.mN S.mC, .slice S.lA S.lN S.lC, .slice S.pA S.pN S.pC, .slice S.oA S.oN S.oC, .int .i64 S.eg, .slice S.iA S.iN S.iC, .slice S.rA S.rN S.rC, .slice S.fA S.fN S.fC, .int .i64 S.h, .int .i64 S.k, .slice S.gA S.gN S.gC, .slice S.wA S.wN S.wC, .int .i64 S.x0, .int .i64 S.x1, .int .i64 S.x2, .int .i64 S.x3, .int .i64 S.x4, .int .i64 S.x5, .int .i64 S.x6, .int .i64 S.x7, .int .i64 S.x8, .int .i64 S.x9, .int .i64 S.x10, .int .i64 S.y0, .int .i64 S.y1, .int .i64 S.y2, .int .i64 S.y3, .int .i64 S.y4, .int .i64 S.y5, .slice S.eA S.eN S.eC, .slice S.sA S.sN S.sC, .int .i64 S.n0, .int .i64 S.n1, .int .i64 S.n2, .int .i64 S.n3, .bool S.want, .bool S.closed, .slice S.vA S.vN S.vC]
theorem st_info : (Try.prog.info? 58).map (·.size) = some 48 := by kernel_rfl
theorem st_cell {w : World} {g : Nat} {S : Sv} (h : w.heap[g]? = some (stRow S)) {j : Nat} {v : Value} (hv : (#[.int .i64 S.cz, .int .i64 S.cs, .int .i64 S.cb, .int .i64 S.cq, .int .i64 S.cd, .int .i64 S.ch, .int .i64 S.ds, .int .i64 S.dm, .int .i64 S.da, .slice S.zA S.zN S.zC, .slice S.mA S.mN S.mC, .slice S.lA S.lN S.lC, .slice S.pA S.pN S.pC, .slice S.oA S.oN S.oC, .int .i64 S.eg, .slice S.iA S.iN S.iC, .slice S.rA S.rN S.rC, .slice S.fA S.fN S.fC, .int .i64 S.h, .int .i64 S.k, .slice S.gA S.gN S.gC, .slice S.wA S.wN S.wC, .int .i64 S.x0, .int .i64 S.x1, .int .i64 S.x2, .int .i64 S.x3, .int .i64 S.x4, .int .i64 S.x5, .int .i64 S.x6, .int .i64 S.x7, .int .i64 S.x8, .int .i64 S.x9, .int .i64 S.x10, .int .i64 S.y0, .int .i64 S.y1, .int .i64 S.y2, .int .i64 S.y3, .int .i64 S.y4, .int .i64 S.y5, .slice S.eA S.eN S.eC, .slice S.sA S.sN S.sC, .int .i64 S.n0, .int .i64 S.n1, .int .i64 S.n2, .int .i64 S.n3, .bool S.want, .bool S.closed, .slice S.vA S.vN S.vC] : Array Value)[j]? = some v) : w.cell? ⟨g, j, none⟩ = some v := (cell_of_row _ _ j _ _ _ h).trans hv
theorem st_conf {w : World} {g : Nat} {S : Sv} (h : w.heap[g]? = some (stRow S)) : w.cell? ⟨g, 0, none⟩ = some (.int .i64 S.cz) ∧ w.cell? ⟨g, 1, none⟩ = some (.int .i64 S.cs) ∧ w.cell? ⟨g, 2, none⟩ = some (.int .i64 S.cb) ∧ w.cell? ⟨g, 3, none⟩ = some (.int .i64 S.cq) ∧ w.cell? ⟨g, 4, none⟩ = some (.int .i64 S.cd) ∧ w.cell? ⟨g, 5, none⟩ = some (.int .i64 S.ch) := ⟨st_cell h rfl, st_cell h rfl, st_cell h rfl, st_cell h rfl, st_cell h rfl, st_cell h rfl⟩
theorem st_dev {w : World} {g : Nat} {S : Sv} (h : w.heap[g]? = some (stRow S)) : w.cell? ⟨g, 6, none⟩ = some (.int .i64 S.ds) ∧ w.cell? ⟨g, 7, none⟩ = some (.int .i64 S.dm) ∧ w.cell? ⟨g, 8, none⟩ = some (.int .i64 S.da) ∧ w.cell? ⟨g, 9, none⟩ = some (.slice S.zA S.zN S.zC) := ⟨st_cell h rfl, st_cell h rfl, st_cell h rfl, st_cell h rfl⟩
theorem st_cnt {w : World} {g : Nat} {S : Sv} (h : w.heap[g]? = some (stRow S)) : w.cell? ⟨g, 11, none⟩ = some (.slice S.lA S.lN S.lC) ∧ w.cell? ⟨g, 12, none⟩ = some (.slice S.pA S.pN S.pC) := ⟨st_cell h rfl, st_cell h rfl⟩
theorem st_epo {w : World} {g : Nat} {S : Sv} (h : w.heap[g]? = some (stRow S)) : w.cell? ⟨g, 14, none⟩ = some (.int .i64 S.eg) ∧ w.cell? ⟨g, 15, none⟩ = some (.slice S.iA S.iN S.iC) ∧ w.cell? ⟨g, 16, none⟩ = some (.slice S.rA S.rN S.rC) := ⟨st_cell h rfl, st_cell h rfl, st_cell h rfl⟩
theorem st_pool {w : World} {g : Nat} {S : Sv} (h : w.heap[g]? = some (stRow S)) : w.cell? ⟨g, 17, none⟩ = some (.slice S.fA S.fN S.fC) ∧ w.cell? ⟨g, 18, none⟩ = some (.int .i64 S.h) ∧ w.cell? ⟨g, 19, none⟩ = some (.int .i64 S.k) := ⟨st_cell h rfl, st_cell h rfl, st_cell h rfl⟩
end Go.Proofs.Ythhggiifbldaeaa.Ents

/- The walks of Get: the program's and the document's own, for any bytes, any place and any size. -/
namespace Go.Proofs.Ythhggiifbldaeaa
open Go.RowKit

theorem bv_small (a : Nat) (h : a < 9223372036854775808) : (BitVec.ofInt 64 (a : Int)).toNat = a := by
  rw [BitVec.ofInt_natCast, BitVec.toNat_ofNat, Nat.mod_eq_of_lt (by omega)]
theorem or_small (a b : Nat) (ha : a < 9223372036854775808) (hb : b < 9223372036854775808) : bits .or .i64 (a : Int) (b : Int) = ((a ||| b : Nat) : Int) := by
  have h : a ||| b < 2 ^ 63 := Nat.or_lt_two_pow (by omega) (by omega)
  show IntKind.i64.wrap ((BitVec.ofInt 64 (a : Int) ||| BitVec.ofInt 64 (b : Int)).toNat : Int) = _
  rw [BitVec.toNat_or, bv_small a ha, bv_small b hb, IntKind.wrap_i64]
  omega
theorem wrap_small (a : Nat) (h : a < 9223372036854775808) : wrap64 (a : Int) = (a : Int) := by unfold wrap64; omega
theorem get_val (X c i : Nat) (hX : X < 256 ^ i) (hi : i < 7) (hc : c < 256) :
    bits .or .i64 (X : Int) (wrap64 (wrap64 (c : Int) * 2 ^ (8 * i))) = ((X + 256 ^ i * c : Nat) : Int) := by
  have h1 := CodecMath.pow_le (i + 1) (by omega)
  have h2 : c * 256 ^ i < 256 ^ (i + 1) := by
    rw [Nat.pow_succ, Nat.mul_comm]
    exact Nat.mul_lt_mul_of_pos_left hc (Nat.pow_pos (by decide))
  have h3 : 256 ^ i ≤ 256 ^ (i + 1) := Nat.pow_le_pow_right (by decide) (by omega)
  have h4 := CodecMath.or_high X c (8 * i) (by rw [CodecMath.pow_two]; exact hX)
  rw [CodecMath.pow_two] at h4
  have e : (2 : Int) ^ (8 * i) = ((256 ^ i : Nat) : Int) := by rw [← CodecMath.pow_two]; simp
  rw [wrap_small c (by omega), e, ← Int.natCast_mul]
  generalize 256 ^ (i + 1) = Q at h1 h2 h3
  rw [wrap_small (c * 256 ^ i) (by omega), or_small X _ (by omega) (by omega), h4, Nat.mul_comm c]
theorem refGet_val (X c : Nat) (hX : X < 281474976710656) (hc : c < 256) :
    bits .or .i64 (wrap64 ((X : Int) * 256)) (wrap64 (c : Int)) = ((c + 256 * X : Nat) : Int) := by
  have h4 := CodecMath.or_high c X 8 (by omega)
  have e : (X : Int) * 256 = ((X * 256 : Nat) : Int) := by omega
  rw [wrap_small c (by omega), e, wrap_small (X * 256) (by omega), or_small (X * 256) c (by omega) (by omega), Nat.or_comm]
  have h5 : c ||| X * 256 = c + X * 256 := h4
  rw [h5, Nat.mul_comm X]
theorem num_take (s : ByteArray) (a i : Nat) (h : a + i < s.size) : CodecMath.num ((s.data.toList.drop a).take (i + 1)) = CodecMath.num ((s.data.toList.drop a).take i) + 256 ^ i * s[a + i].toNat := by
  have hl : s.data.toList.length = s.size := by simp
  rw [List.take_succ_eq_append_getElem (by rw [List.length_drop]; omega), CodecMath.num_append, List.length_take_of_le (by rw [List.length_drop]; omega), List.getElem_drop]
  simp only [CodecMath.num]
  rfl
theorem num_drop (s : ByteArray) (a i k : Nat) (hi : i < k) (h : a + i < s.size) : CodecMath.num ((s.data.toList.drop (a + i)).take (k - i)) = s[a + i].toNat + 256 * CodecMath.num ((s.data.toList.drop (a + (i + 1))).take (k - (i + 1))) := by
  have hl : s.data.toList.length = s.size := by simp
  rw [List.drop_eq_getElem_cons (by omega), show k - i = (k - (i + 1)) + 1 by omega, List.take_succ_cons]
  rfl
theorem num_take_lt (l : List UInt8) (a i : Nat) : CodecMath.num ((l.drop a).take i) < 256 ^ i :=
  Nat.lt_of_lt_of_le (CodecMath.num_lt _) (Nat.pow_le_pow_right (by decide) (List.length_take_le _ _))
theorem val_i64 {a b : Int} (h : a = b) : Value.int .i64 a = .int .i64 b := by rw [h]

theorem okArg_true {a k : Int} (h : CodecMath.okArg a k = true) : 1 ≤ k ∧ k ≤ 7 ∧ 0 ≤ a := by
  simp only [CodecMath.okArg, Bool.and_eq_true, decide_eq_true_eq] at h
  omega
theorem getE_no {l : List UInt8} {a k : Int} (h : CodecMath.okArg a k = false) : CodecMath.getE l a k = 1 ∧ CodecMath.getN l a k = 0 := by simp [CodecMath.getE, CodecMath.getN, h]
theorem getE_short {l : List UInt8} {a k : Int} (h : CodecMath.okArg a k = true) (h2 : CodecMath.okAt l.length a k = false) : CodecMath.getE l a k = 2 ∧ CodecMath.getN l a k = 0 := by simp [CodecMath.getE, CodecMath.getN, h, h2]
theorem getE_ok {l : List UInt8} {a k : Int} (h : CodecMath.okArg a k = true) (h2 : CodecMath.okAt l.length a k = true) : CodecMath.getE l a k = 0 ∧ CodecMath.getN l a k = (CodecMath.num ((l.drop a.toNat).take k.toNat) : Int) := by simp [CodecMath.getE, CodecMath.getN, h, h2]
end Go.Proofs.Ythhggiifbldaeaa

/- Lists of entries that lie in memory, in the blocks of a set; lists that the call owns. -/
namespace Go.Proofs.Ythhggiifbldaeaa.Ents
open Go.RowKit Plan EntMath

theorem ent_add_off (x : Addr) (m n : Nat) : x.add (m + (n + 1)) = ⟨(x.add m).block, (x.add m).off + (n + 1), none⟩ := by rw [← Addr.add_add, Addr.add_succ']
theorem ent_add_block (x : Addr) (i : Nat) : (x.add i).block = x.block := by unfold Addr.add; split <;> rfl
/-- two worlds that agree on the blocks of a set -/
def Same (F : Nat → Prop) (w w' : World) : Prop := w.heap.size ≤ w'.heap.size ∧ ∀ b, F b → b < w.heap.size → w'.heap[b]? = w.heap[b]?
theorem Same.cell {F : Nat → Prop} {w w' : World} (h : Same F w w') {x : Addr} {v : Value} (hx : F x.block) (hc : w.cell? x = some v) : w'.cell? x = some v := by
  rw [World.cell?_of_block (h.2 x.block hx (World.block_lt_of_cell? w _ hc)), hc]
theorem Same.refl (F : Nat → Prop) (w : World) : Same F w w := ⟨Nat.le_refl _, fun _ _ _ => rfl⟩
theorem Same.trans {F : Nat → Prop} {a b c : World} (h : Same F a b) (k : Same F b c) : Same F a c := ⟨Nat.le_trans h.1 k.1, fun x hx hl => (k.2 x hx (Nat.lt_of_lt_of_le hl h.1)).trans (h.2 x hx hl)⟩
theorem Same.below {F : Nat → Prop} {w w' : World} (hb : Below w.heap.size w w') : Same F w w' := ⟨hb.size, fun b _ hlt => hb.block b hlt⟩
theorem Same.low {B : Nat} {w w' : World} (hb : Below B w w') : Same (fun b => b < B) w w' := ⟨hb.size, fun b h _ => hb.block b h⟩
theorem Same.alloc {F : Nat → Prop} (w : World) (o : Obj) : Same F w (w.alloc o) := Same.below ((Below.refl _ _).alloc (Nat.le_refl _) o)
theorem Same.row {F : Nat → Prop} {w : World} {r : Nat} (hr : ¬ F r) (cs : Array Value) : Same F w (w.setRow r cs) :=
  ⟨Nat.le_of_eq (by simp [World.setRow]), fun b hb _ => setRow_other _ _ _ _ (fun e => hr (e ▸ hb))⟩
theorem Same.setCell {F : Nat → Prop} {w : World} {p : Addr} (hr : ¬ F p.block) (u : Value) : Same F w (w.setCell p u) :=
  ⟨Nat.le_of_eq (by simp [World.setCell]), fun b hb _ => Below.heap_setCell _ _ _ _ (fun e => hr (e ▸ hb))⟩
/-- the blocks of a set, and all that are made from now on -/
abbrev Plus (F : Nat → Prop) (n : Nat) : Nat → Prop := fun b => F b ∨ n ≤ b

/-- an entry as cells, as a value, as a row; a list of entries as cells -/
def entC (e : Ent) : List Value := [.int .i64 e.block, .int .i64 e.kind, .int .i64 e.version, .int .i64 e.move, .int .i64 e.zone, .int .i64 e.offset]
abbrev entV (e : Ent) : Value := .agg #[.int .i64 e.block, .int .i64 e.kind, .int .i64 e.version, .int .i64 e.move, .int .i64 e.zone, .int .i64 e.offset]
abbrev entRow (b k v m z o : Int) : Obj := .cells #[.int .i64 b, .int .i64 k, .int .i64 v, .int .i64 m, .int .i64 z, .int .i64 o] 47
abbrev placeRow (z o : Int) : Obj := .cells #[.int .i64 z, .int .i64 o] 45
def ents (L : List Ent) : List Value := L.flatMap entC
theorem ents_nil : ents [] = [] := rfl
theorem ents_append (L M : List Ent) : ents (L ++ M) = ents L ++ ents M := by simp [ents]
theorem ents_cons (e : Ent) (L : List Ent) : ents (e :: L) = entC e ++ ents L := rfl
theorem ents_one (e : Ent) : ents [e] = entC e := by simp [ents]
theorem ents_length (L : List Ent) : (ents L).length = L.length * 6 := by
  induction L with
  | nil => rfl
  | cons e L ih => rw [ents_cons, List.length_append, ih, List.length_cons]; simp [entC]; omega
theorem ents_get {L : List Ent} {i : Nat} {e : Ent} (h : L[i]? = some e) (k : Nat) (hk : k < 6) : (ents L)[i * 6 + k]? = (entC e)[k]? := by
  induction L generalizing i with
  | nil => cases h
  | cons x L ih =>
    rw [ents_cons]
    cases i with
    | zero =>
      obtain rfl := Option.some.inj h
      rw [List.getElem?_append_left (by simp [entC]; omega)]
      congr 1
      omega
    | succ i =>
      rw [List.getElem?_append_right (by simp [entC]; omega)]
      have := ih (i := i) h
      rw [← this]
      congr 1
      simp [entC]
      omega
theorem ents_flat (L : List Ent) : ∀ u ∈ ents L, u.oneCell' = true := by
  intro u hu
  obtain ⟨e, _, he⟩ := List.mem_flatMap.1 hu
  simp only [entC, List.mem_cons, List.not_mem_nil, or_false] at he
  rcases he with rfl | rfl | rfl | rfl | rfl | rfl <;> rfl
theorem ents_take (L : List Ent) (k : Nat) : ents (L.take k) = (ents L).take (k * 6) := by
  induction L generalizing k with
  | nil => simp [ents]
  | cons e L ih =>
    cases k with
    | zero => simp [ents]
    | succ k =>
      have hl : (entC e).length = 6 := rfl
      rw [List.take_succ_cons, ents_cons, ents_cons, ih, List.take_append, List.take_of_length_le (l := entC e) (by omega), hl, show (k + 1) * 6 - 6 = k * 6 by omega]
theorem ents_drop (L : List Ent) (k : Nat) : ents (L.drop k) = (ents L).drop (k * 6) := by
  induction L generalizing k with
  | nil => simp [ents]
  | cons e L ih =>
    cases k with
    | zero => simp [ents]
    | succ k =>
      have hl : (entC e).length = 6 := rfl
      rw [List.drop_succ_cons, ents_cons, ih, List.drop_append, List.drop_of_length_le (l := entC e) (by omega), hl, List.nil_append, show (k + 1) * 6 - 6 = k * 6 by omega]
/-- an entry in memory: its cells as a walk spells them -/
abbrev EntAt (w : World) (x : Addr) (i : Nat) (e : Ent) : Prop :=
  w.cell? (x.add (i * 6)) = some (.int .i64 e.block) ∧ w.cell? ⟨(x.add (i * 6)).block, (x.add (i * 6)).off + 1, none⟩ = some (.int .i64 e.kind) ∧
  w.cell? ⟨(x.add (i * 6)).block, (x.add (i * 6)).off + 2, none⟩ = some (.int .i64 e.version) ∧ w.cell? ⟨(x.add (i * 6)).block, (x.add (i * 6)).off + 3, none⟩ = some (.int .i64 e.move) ∧
  w.cell? ⟨(x.add (i * 6)).block, (x.add (i * 6)).off + 4, none⟩ = some (.int .i64 e.zone) ∧ w.cell? ⟨(x.add (i * 6)).block, (x.add (i * 6)).off + 5, none⟩ = some (.int .i64 e.offset)
/-- a list of entries -/
def EList (w : World) (F : Nat → Prop) (a : Option Addr) (len cap : Nat) (L : List Ent) : Prop :=
  (True ∧ len = 0 ∧ cap = 0 ∧ L = []) ∨
  ∃ x, a = some x ∧ len ≤ cap ∧ cap ≤ maxLen ∧ L.length = len ∧ x.block < w.heap.size ∧ F x.block ∧ ∀ j u, (ents L)[j]? = some u → w.cell? (x.add j) = some u
theorem EList.nil (w : World) (F : Nat → Prop) : EList w F none 0 0 [] := .inl ⟨trivial, rfl, rfl, rfl⟩
theorem EList.length {w : World} {F : Nat → Prop} {a : Option Addr} {len cap : Nat} {L : List Ent} (h : EList w F a len cap L) : L.length = len := by
  rcases h with ⟨_, rfl, _, rfl⟩ | ⟨x, _, _, _, h4, _⟩
  · rfl
  · exact h4
theorem EList.cap {w : World} {F : Nat → Prop} {a : Option Addr} {len cap : Nat} {L : List Ent} (h : EList w F a len cap L) : len ≤ cap ∧ cap ≤ maxLen := by
  rcases h with ⟨_, rfl, rfl, rfl⟩ | ⟨x, _, h2, h3, _⟩
  · exact ⟨Nat.le_refl _, Nat.zero_le _⟩
  · exact ⟨h2, h3⟩
theorem EList.on {F : Nat → Prop} {w w' : World} {a : Option Addr} {len cap : Nat} {L : List Ent} (h : EList w F a len cap L) (hw : Same F w w') : EList w' F a len cap L := by
  rcases h with h | ⟨x, h1, h2, h3, h4, h5, h6, h7⟩
  · exact .inl h
  · exact .inr ⟨x, h1, h2, h3, h4, Nat.lt_of_lt_of_le h5 hw.1, h6, fun j u hu => hw.cell (by rw [ent_add_block]; exact h6) (h7 j u hu)⟩
theorem EList.mono {F G : Nat → Prop} {w : World} {a : Option Addr} {len cap : Nat} {L : List Ent} (h : EList w F a len cap L) (hFG : ∀ b, b < w.heap.size → F b → G b) : EList w G a len cap L := by
  rcases h with h | ⟨x, h1, h2, h3, h4, h5, h6, h7⟩
  · exact .inl h
  · exact .inr ⟨x, h1, h2, h3, h4, h5, hFG _ h5 h6, h7⟩
theorem EList.cut {F : Nat → Prop} {w : World} {a : Option Addr} {len cap : Nat} {L : List Ent} (h : EList w F a len cap L) : EList w (fun b => F b ∧ b < w.heap.size) a len cap L := h.mono fun _ hb hf => ⟨hf, hb⟩
theorem ent_at {w : World} {x : Addr} {L : List Ent} (h : ∀ j u, (ents L)[j]? = some u → w.cell? (x.add j) = some u) {i : Nat} {e : Ent} (hi : L[i]? = some e) : EntAt w x i e := by
  refine ⟨h (i * 6) _ ((ents_get hi 0 (by decide))), ?_, ?_, ?_, ?_, ?_⟩
  · rw [← ent_add_off x (i * 6) 0]; exact h _ _ (ents_get hi 1 (by decide))
  · rw [← ent_add_off x (i * 6) 1]; exact h _ _ (ents_get hi 2 (by decide))
  · rw [← ent_add_off x (i * 6) 2]; exact h _ _ (ents_get hi 3 (by decide))
  · rw [← ent_add_off x (i * 6) 3]; exact h _ _ (ents_get hi 4 (by decide))
  · rw [← ent_add_off x (i * 6) 4]; exact h _ _ (ents_get hi 5 (by decide))
theorem EList.ent {w : World} {F : Nat → Prop} {a : Option Addr} {len cap : Nat} {L : List Ent} (h : EList w F a len cap L) (i : Nat) (hi : i < len) : ∃ x e, a = some x ∧ L[i]? = some e ∧ EntAt w x i e := by
  have hl := h.length
  rcases h with ⟨_, rfl, _, _⟩ | ⟨x, h1, _, _, _, _, _, h7⟩
  · omega
  · have he : L[i]? = some (L[i]'(by omega)) := List.getElem?_eq_getElem _
    exact ⟨x, _, h1, he, ent_at h7 he⟩
/-- a list that the call owns is one that is read -/
theorem owns_ents {w : World} {F : Nat → Prop} {B : Nat} {v : Value} {n : Nat} {L : List Ent} (h : w.ownsRow B 47 6 v n (ents L)) (hF : ∀ b, v.ownBlock = some b → F b) : L.length = n ∧ ∃ a cap, v = .slice a n cap ∧ EList w F a n cap L := by
  have hl : L.length = n := by have h1 := h.1; rw [ents_length] at h1; omega
  refine ⟨hl, ?_⟩
  rcases h.2 with ⟨rfl, rfl⟩ | ⟨g, cap, cur, rfl, hb, hg, h1, h2, h3, h4⟩
  · obtain rfl : L = [] := List.length_eq_zero_iff.1 hl
    exact ⟨none, 0, rfl, .inl ⟨trivial, rfl, rfl, rfl⟩⟩
  · exact ⟨_, _, rfl, .inr ⟨_, rfl, h1, h2, hl, (Array.getElem?_eq_some_iff.1 hg).1, hF g rfl, fun j u hu => h.cells (g := g) rfl j u hu⟩⟩
theorem entry_info : (Try.prog.info? 47).map (·.size) = some 6 := by kernel_rfl
theorem place_info : (Try.prog.info? 45).map (·.size) = some 2 := by kernel_rfl
theorem entry_row {w : World} {g : Nat} {a b c d e f : Value} {t : TypeId} {fr : Nat × Nat} (h : w.heap[g]? = some (.cells #[a, b, c, d, e, f] t fr)) :
    w.cell? ⟨g, 0, none⟩ = some a ∧ w.cell? ⟨g, 1, none⟩ = some b ∧ w.cell? ⟨g, 2, none⟩ = some c ∧ w.cell? ⟨g, 3, none⟩ = some d ∧ w.cell? ⟨g, 4, none⟩ = some e ∧ w.cell? ⟨g, 5, none⟩ = some f :=
  ⟨cell_of_row _ _ 0 _ _ _ h, cell_of_row _ _ 1 _ _ _ h, cell_of_row _ _ 2 _ _ _ h, cell_of_row _ _ 3 _ _ _ h, cell_of_row _ _ 4 _ _ _ h, cell_of_row _ _ 5 _ _ _ h⟩
theorem e_on {B g : Nat} {W w1 : World} {x : Option Obj} (hb : Below B W w1) (h : W.heap[g]? = x) (hg : g < B) : w1.heap[g]? = x := heap_old hb hg h
theorem e_al {g : Nat} {w : World} {o : Obj} (h : w.heap[g]? = some o) (o2 : Obj) : (w.alloc o2).heap[g]? = some o := (Below.heap_alloc _ _ _ (Array.getElem?_eq_some_iff.1 h).1).trans h
theorem e_lt {g : Nat} {w : World} {o : Obj} (h : w.heap[g]? = some o) : g < w.heap.size := (Array.getElem?_eq_some_iff.1 h).1
theorem e_b {a b : Bool} (h : a = b) : Ending.returned (.bool a) = .returned (.bool b) := by rw [h]
theorem e_v {x y : Value} (h : x = y) : Ending.returned x = .returned y := by rw [h]
end Go.Proofs.Ythhggiifbldaeaa.Ents

/- The walks of the document's entry, place and Valid. -/
namespace Go.Proofs.Ythhggiifbldaeaa.Ents
open Go.RowKit Plan EntMath
theorem ok_iff {e : Ent} : okE e = true ↔ (e.kind = 1 ∨ e.kind = 2) ∧ 1 ≤ e.version ∧ e.version ≤ 1099511627776 ∧ 0 ≤ e.move ∧ e.move ≤ 255 ∧ 0 ≤ e.block ∧ 0 ≤ e.zone ∧ 0 ≤ e.offset := by
  simp [okE, Bool.and_eq_true, and_assoc]
theorem ok_not {e : Ent} (h : ¬ ((e.kind = 1 ∨ e.kind = 2) ∧ 1 ≤ e.version ∧ e.version ≤ 1099511627776 ∧ 0 ≤ e.move ∧ e.move ≤ 255 ∧ 0 ≤ e.block ∧ 0 ≤ e.zone ∧ 0 ≤ e.offset)) : okE e = false := by
  cases hE : okE e
  · rfl
  · exact absurd (ok_iff.1 hE) h
theorem e_dec {E : Bool} {p : Prop} [Decidable p] (h1 : p → E = true) (h2 : ¬ p → E = false) : decide p = E := by
  by_cases h : p
  · rw [decide_eq_true h, h1 h]
  · rw [decide_eq_false h, h2 h]
end Go.Proofs.Ythhggiifbldaeaa.Ents

/- The walk of the document's Valid. -/
namespace Go.Proofs.Ythhggiifbldaeaa.Ents
open Go.RowKit Plan EntMath
theorem EntAt.kept {w w' : World} {x : Addr} {i : Nat} {e : Ent} (h : EntAt w x i e) (hb : Below w.heap.size w w') (hx : x.block < w.heap.size) : EntAt w' x i e := by
  have hc : ∀ y : Addr, y.block = x.block → w'.cell? y = w.cell? y := fun y hy => hb.cell (by rw [hy]; exact hx)
  obtain ⟨h0, h1, h2, h3, h4, h5⟩ := h
  have hB : (x.add (i * 6)).block = x.block := ent_add_block x _
  exact ⟨(hc _ hB).trans h0, (hc ⟨(x.add (i * 6)).block, (x.add (i * 6)).off + 1, none⟩ hB).trans h1, (hc ⟨(x.add (i * 6)).block, (x.add (i * 6)).off + 2, none⟩ hB).trans h2, (hc ⟨(x.add (i * 6)).block, (x.add (i * 6)).off + 3, none⟩ hB).trans h3, (hc ⟨(x.add (i * 6)).block, (x.add (i * 6)).off + 4, none⟩ hB).trans h4, (hc ⟨(x.add (i * 6)).block, (x.add (i * 6)).off + 5, none⟩ hB).trans h5⟩
theorem EntAt.lt {w : World} {x : Addr} {i : Nat} {e : Ent} (h : EntAt w x i e) : x.block < w.heap.size := by
  have := World.block_lt_of_cell? w _ h.1
  rwa [ent_add_block] at this
theorem valid_no {L : List Ent} {i : Nat} {e : Ent} (he : L[i]? = some e) (h : okAt L i = false) : validB L = false := by
  cases hv : validB L
  · rfl
  · rw [valid_at hv he] at h; cases h
theorem valid_all {L : List Ent} (h : ∀ i, i < L.length → okAt L i = true) : validB L = true := List.all_eq_true.2 fun i hi => h i (List.mem_range.1 hi)
end Go.Proofs.Ythhggiifbldaeaa.Ents

/- The walk of the document's Find. -/
namespace Go.Proofs.Ythhggiifbldaeaa.Ents
open Go.RowKit Plan EntMath
/-- what Find gives -/
def findV (L : List Ent) (b : Int) : Value := .tuple #[entV ((findE L b).getD zeroE), .bool (findE L b).isSome]
theorem findV_none {L : List Ent} {b : Int} (h : findE L b = none) : findV L b = .tuple #[.agg #[.int .i64 0, .int .i64 0, .int .i64 0, .int .i64 0, .int .i64 0, .int .i64 0], .bool false] := by unfold findV; rw [h]; rfl
theorem findV_some {L : List Ent} {b : Int} {e : Ent} (h : findE L b = some e) : findV L b = .tuple #[entV e, .bool true] := by unfold findV; rw [h]; rfl
theorem find_invalid {L : List Ent} {b : Int} (h : validB L = false) : findE L b = none := by unfold findE; rw [if_neg (by rw [h]; decide)]
theorem find_at {L : List Ent} {b : Int} (h : validB L = true) {e : Ent} (he : L[place L b]? = some e) : findE L b = if e.block = b then some e else none := by
  unfold findE
  rw [if_pos h, look_place (valid_iff.1 h).2, he]
theorem find_past {L : List Ent} {b : Int} (h : validB L = true) (he : L.length ≤ place L b) : findE L b = none := by
  unfold findE
  rw [if_pos h, look_place (valid_iff.1 h).2, List.getElem?_eq_none he]
end Go.Proofs.Ythhggiifbldaeaa.Ents
