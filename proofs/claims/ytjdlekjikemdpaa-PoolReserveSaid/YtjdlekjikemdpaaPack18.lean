/- Texts that belong together, part 18. -/
import Derived.Test.YtjdlekjikemdpaaPack17

/- The walks of the document's Held and New of locks. -/
namespace Go.Proofs.Ytjdlekjikemdpaa.Ents
open Go.RowKit Plan EntMath CntMath LckMath
theorem append_int {w : World} {ops : Array Oper} {rest : List Oper} {o : Oper} {a : Act} {Q : Exit → Act → World → Prop} (hgd : o.guard = none) (s x : Operand)
    (ho : o.op = .call { callee := .builtin .append, args := #[s, x], argTypes := #[22, 22] })
    (base : Nat) (v : Value) (m0 : Nat) (Z : List Int) (hs : a.eval s = v) (hown : w.ownsRow base 3 1 v m0 (intC Z)) (g : Nat) (z : Int) (hx : a.eval x = .slice (some ⟨g, 0, none⟩) 1 1) (hg : w.heap[g]? = some (.cells #[.int .i64 z] 3 (0, 0))) (hm : m0 ≤ 900000) (hbase : base ≤ w.heap.size)
    (h : ∀ g' c' w', w'.ownsRow base 3 1 (.slice (some ⟨g', 0, none⟩) (m0 + 1) c') (m0 + 1) (intC (Z ++ [z])) → w.grownBy w' v.ownBlock → (v.ownBlock = some g' ∨ g' = w.heap.size) → wpList Try.prog ops Q rest (a.put o.dst (.slice (some ⟨g', 0, none⟩) (m0 + 1) c')) w') : wpList Try.prog ops Q (o :: rest) a w := by
  obtain ⟨i1, hi1, hy0, hy1, hy2⟩ := info_parts int_info
  have hL : ∀ j u, (intC [z])[j]? = some u → w.cell? ((⟨g, 0, none⟩ : Addr).add j) = some u := fun j u hu => by
    rw [Addr.add_lit, Nat.zero_add]
    exact (cell_of_row w g j _ _ _ hg).trans (by rw [List.getElem?_toArray]; exact hu)
  refine wpList_append_lies w hgd s x 22 ho base 3 i1 _ 1 8 Try.underlying22 hi1 hy0 hy1 hy2 rfl (by decide) v m0 (intC Z) hs hown ⟨g, 0, none⟩ 1 1 (intC [z]) hx rfl hL (intC_flat _) (by decide) (by unfold maxLen; omega) (by omega) hbase _ rfl ?_
  intro g' c' w' h1 h2 h3 _
  rw [show intC Z ++ intC [z] = intC (Z ++ [z]) from by simp [intC]] at h1
  exact h g' c' w' h1 h2 h3
/-- what Held leaves -/
def HeldPost (w : World) (Z : List Int) (r : Ending) (w' : World) : Prop := ∃ a n c, r = .returned (.slice a n c) ∧ IList w' (fun b => w.heap.size ≤ b) a n c Z ∧ Below w.heap.size w w'
/-- what New leaves -/
def LNewPost (w : World) (O : List Int) (E : Int) (r : Ending) (w' : World) : Prop := ∃ a n c, r = .returned (.tuple #[lckV a n c, .int .i64 E]) ∧ IList w' (fun b => w.heap.size ≤ b) a n c O ∧ Below w.heap.size w w'
theorem all_is {Z : List Int} {n : Nat} {v : Int} (h : Z.length = n) (hi : ∀ i : Nat, i < n → Z[i]? = some v) : Z = List.replicate n v := by
  refine List.ext_getElem? fun i => ?_
  rcases Nat.lt_or_ge i n with h1 | h1
  · rw [hi i h1, List.getElem?_replicate, if_pos h1]
  · rw [List.getElem?_eq_none (by omega), List.getElem?_eq_none (by simp; omega)]
end Go.Proofs.Ytjdlekjikemdpaa.Ents

/- Epochs in memory. -/
namespace Go.Proofs.Ytjdlekjikemdpaa.Ents
open Go.RowKit Plan EntMath CntMath EpoMath Rws
abbrev retV (r : Ret) : Value := .agg #[.int .i64 r.zone, .int .i64 r.epoch]
abbrev RetAt (w : World) (x : Addr) (i : Nat) (r : Ret) : Prop := w.cell? (x.add (i * 2)) = some (.int .i64 r.zone) ∧ w.cell? ⟨(x.add (i * 2)).block, (x.add (i * 2)).off + 1, none⟩ = some (.int .i64 r.epoch)
abbrev epoV (g : Int) (a : Option Addr) (n c : Nat) (b : Option Addr) (m d : Nat) : Value := .agg #[.int .i64 g, .slice a n c, .slice b m d]
theorem three_row {w : World} {g : Nat} {a b c : Value} {t : TypeId} {fr : Nat × Nat} (h : w.heap[g]? = some (.cells #[a, b, c] t fr)) : w.cell? ⟨g, 0, none⟩ = some a ∧ w.cell? ⟨g, 1, none⟩ = some b ∧ w.cell? ⟨g, 2, none⟩ = some c := ⟨cell_of_row _ _ 0 _ _ _ h, cell_of_row _ _ 1 _ _ _ h, cell_of_row _ _ 2 _ _ _ h⟩
section
variable {w w' : World} {F G : Nat → Prop} {g : Int} {a b : Option Addr} {n c m d : Nat} {E : Epo}
end
end Go.Proofs.Ytjdlekjikemdpaa.Ents

/- Pools in memory; the walk of the document's has. -/
namespace Go.Proofs.Ytjdlekjikemdpaa.Ents
open Go.RowKit Plan EntMath CntMath PoolMath LayMath
abbrev poV (a : Option Addr) (n c : Nat) (h k : Int) : Value := .agg #[.slice a n c, .int .i64 h, .int .i64 k]
abbrev poRow (a : Option Addr) (n c : Nat) (h k : Int) : Obj := .cells #[.slice a n c, .int .i64 h, .int .i64 k] 24
theorem po_info : (Try.prog.info? 24).map (·.size) = some 3 := by kernel_rfl
/-- a pool that lies in the blocks of a set -/
structure FList (w : World) (F : Nat → Prop) (a : Option Addr) (n c : Nat) (h k : Int) (P : Po) : Prop where
  hh : P.host = h
  hk : P.clean = k
  f : IList w F a n c P.free
section
variable {w w' : World} {F G : Nat → Prop} {a : Option Addr} {h k : Int} {n c : Nat} {P : Po}
theorem FList.on (l : FList w F a n c h k P) (hw : Same F w w') : FList w' F a n c h k P := ⟨l.hh, l.hk, l.f.on hw⟩
theorem FList.mono (l : FList w F a n c h k P) (hFG : ∀ b, b < w.heap.size → F b → G b) : FList w G a n c h k P := ⟨l.hh, l.hk, l.f.mono hFG⟩
theorem FList.cut (l : FList w F a n c h k P) : FList w (fun b => F b ∧ b < w.heap.size) a n c h k P := ⟨l.hh, l.hk, l.f.cut⟩
theorem FList.same (l : FList w F a n c h k P) (hb : Below w.heap.size w w') : FList w' (fun b => b < w.heap.size) a n c h k P := ⟨l.hh, l.hk, l.f.same hb⟩
end
/-- what a function that changes a pool leaves -/
def PoPost (w : World) (F : Nat → Prop) (P : Po) (B : Bool) (r : Ending) (w' : World) : Prop :=
  ∃ a n c h k, r = .returned (.tuple #[poV a n c h k, .bool B]) ∧ FList w' (Plus F w.heap.size) a n c h k P ∧ Below w.heap.size w w'
set_option maxHeartbeats 4000000 in
set_option maxRecDepth 20000 in
theorem refPHas_any (F : Nat → Prop) (O : List Int) (z : Int) (a : Option Addr) (n c : Nat) (w : World) (hl : IList w F a n c O) :
    Calls Try.prog 27 #[.slice a n c, .int .i64 z] w fun r w' => r = .returned (.bool (hasL O z)) ∧ Below w.heap.size w w' := by
  have hlen := hl.length
  have H1 := Lib.hid (fun W (h : Below w.heap.size w W) i (hi : i < n) => (hl.same h).at' i hi)
  have HHERE := Lib.hid (fun j x (h : O[j]? = some x) => @has_here O z x j O.length h)
  rw [hlen] at HHERE
  have HNEXT := Lib.hid (fun j x (h : O[j]? = some x) => @has_next O z x j h)
  have HALL := Lib.hid (show O.take n = O from List.take_of_length_le (by omega))
  have H0 := Lib.hid (show hasL (O.take 0) z = false from rfl)
  have hcp := hl.cap
  have hA := Below.refl w.heap.size w
  unfold maxLen at hcp
  clear hl
  go_enter Try.func27, Try.ntmps27
  go_wp2_with fail
  go_loopw [5] (fun x wr => ∃ j : Nat, x = .int .i64 (j : Int) ∧ j ≤ n ∧ RowKit.Hid (hasL (O.take j) z = false) ∧ Below w.heap.size w wr) (fun x _ => n - (intOf x).toNat)
  case atStart => exact ⟨0, rfl, by omega, H0, hA⟩
  case round =>
    clear hA
    obtain ⟨j, rfl, hj, hn, hb⟩ := hrel
    by_cases hlt : j < n
    · obtain ⟨x, y, rfl, hz, hc⟩ := H1.out wr hb j hlt
      have hjI : (j : Int) < (n : Int) := by omega
      have HN := Lib.hid (HHERE.out j y hz hlt)
      have HX := Lib.hid (HNEXT.out j y hz)
      clear hz
      by_cases hq : y = z
      · have q1 : (y == z) = true := by simpa using hq
        have HR := Lib.hid (HN.out hq)
        rw [HALL.out] at HR
        subst hq
        go_wp2_with fail
        go_ret
        exact ⟨i_b HR.out.symm, hb⟩
      · have q1 : (y == z) = false := by simpa using hq
        have HY := Lib.hid (HX.out.trans (by rw [hn.out, decide_eq_false hq]))
        go_wp2_with fail
        go_roundw
        case rel => exact ⟨j + 1, by go_num, by omega, HY, hb⟩
        case measure => simp [intOf]; omega
    · obtain rfl : j = n := by omega
      have hjI : ¬ (j : Int) < (j : Int) := by omega
      rw [HALL.out] at hn
      go_wp2_with fail
      go_ret
      exact ⟨i_b hn.out.symm, hb⟩
end Go.Proofs.Ytjdlekjikemdpaa.Ents
