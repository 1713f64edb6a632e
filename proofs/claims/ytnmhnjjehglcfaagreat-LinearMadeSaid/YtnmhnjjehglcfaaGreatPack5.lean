/- Texts that belong together, part 5. -/
import Derived.Test.YtnmhnjjehglcfaaGreatPack3
import Derived.Laws.IdiomStrings
import Derived.Deep.OwnRows
import Derived.Below

/- The walks of Put: the program's and the document's own, for any number and any size. -/
namespace Go.Proofs.YtnmhnjjehglcfaaGreat
open Go.RowKit

theorem info_byte : (Tryz.prog.info? 5).map (fun i => (i.zero, i.size, i.bytes)) = some (some (.int .u8 0), 1, 1) := by kernel_rfl
end Go.Proofs.YtnmhnjjehglcfaaGreat

/- The walk of the maker's value of a block: sixteen bytes out of a number. -/
namespace Go.Proofs.YtnmhnjjehglcfaaGreat
open Go.RowKit

/-- a block's cells as bytes -/
def byF (f : Nat → UInt8) (j : Nat) : Value := .int .u8 ((f j).toNat : Int)
/-- the string of a block of bytes -/
theorem conv_row {w : World} {B k : Nat} {f : Nat → UInt8} (h : w.rowIs B 5 k (byF f)) :
    (convert 64 9 (.slice (some ⟨B, 0, none⟩) k k)).run Tryz.prog w = .ok (.string ⟨((List.range k).map f).toArray⟩) w := by
  have hl : ((List.range k).map f).length = k := by simp
  have h1 := run_convert_bytes_back (P := Tryz.prog) w 64 9 5 ⟨B, 0, none⟩ k ((List.range k).map f) Tryz.underlying64 Tryz.underlying5 Tryz.underlying9 (fun j hj => by
    have hj' : j < k := by simpa using hj
    have e : (⟨B, 0, none⟩ : Addr).add j = ⟨B, j, none⟩ := by unfold Addr.add; split <;> simp_all
    rw [e, h.cell hj']
    simp [byF])
  rwa [hl] at h1
/-- one byte of a block is stored -/
theorem row_put {w : World} {B k i : Nat} {f : Nat → UInt8} (h : w.rowIs B 5 k (byF f)) (c : UInt8) {x : Int} (hx : x = (c.toNat : Int)) :
    (w.setCell ⟨B, i, none⟩ (.int .u8 x)).rowIs B 5 k (byF fun j => if j = i then c else f j) := by
  refine (h.set i _).congr fun j hj => ?_
  unfold byF
  dsimp only
  by_cases he : j = i
  · subst he; rw [if_pos rfl, if_pos rfl, hx]
  · rw [if_neg he, if_neg he]
/-- the bytes of a value -/
def valF (n k : Nat) (j : Nat) : UInt8 := if j < k then UInt8.ofNat ((n + j * n) % 251) else 0
def valueF (n : Nat) (j : Nat) : UInt8 := if j = 0 then UInt8.ofNat (1 + n % 255) else valF n 16 j
def valueL (n : Nat) : List UInt8 := (List.range 16).map (valueF n)
theorem val_next {w : World} {B i n : Nat} (h : w.rowIs B 5 16 (byF (valF n i))) {x : Int} (hx : x = ((UInt8.ofNat ((n + i * n) % 251)).toNat : Int)) :
    (w.setCell ⟨B, i, none⟩ (.int .u8 x)).rowIs B 5 16 (byF (valF n (i + 1))) := by
  refine (row_put h _ hx).congr fun j hj => ?_
  unfold byF valF
  dsimp only
  by_cases he : j = i
  · subst he; rw [if_pos rfl, if_pos (by omega)]
  · rw [if_neg he]
    by_cases h1 : j < i
    · rw [if_pos h1, if_pos (by omega)]
    · rw [if_neg h1, if_neg (by omega)]
theorem byte_small (m : Nat) (h : m < 256) : (m : Int) = ((UInt8.ofNat m).toNat : Int) := by
  rw [UInt8.toNat_ofNat', Nat.mod_eq_of_lt (by simpa using h)]
theorem value_length (n : Nat) : (valueL n).length = 16 := by simp [valueL]
set_option maxHeartbeats 400000 in
theorem value_any (n : Nat) (hn : n ≤ 100000) (w : World) :
    Calls Tryz.prog 29 #[.int .i64 n] w fun e w' => e = .returned (.string ⟨(valueL n).toArray⟩) ∧ Below w.heap.size w w' := by
  have hmk := fun w => run_make_row' (P := Tryz.prog) 64 5 (.int .u8 0) 1 Tryz.underlying64 info_byte rfl .i64 .i64 16 (by omega) (by omega) w
  simp only [Int.cast_ofNat_Int] at hmk
  have hm : ∀ (i : Nat), i < 16 → ∀ w, Calls Tryz.prog 18 #[.int .i64 ((n : Int) + (i : Int) * (n : Int)), .int .i64 251] w fun e w' => e = .returned (.int .i64 (((n + i * n) % 251 : Nat) : Int)) ∧ w = w' := fun i hi w => by
    have h := mod_any ((n : Int) + (i : Int) * (n : Int)) 251 (by decide) (by decide) w
    rwa [show ((n : Int) + (i : Int) * (n : Int)) % 251 = (((n + i * n) % 251 : Nat) : Int) by simp] at h
  have hm0 : ∀ w, Calls Tryz.prog 18 #[.int .i64 (n : Int), .int .i64 255] w fun e w' => e = .returned (.int .i64 ((n % 255 : Nat) : Int)) ∧ w = w' := fun w => by
    have h := mod_any (n : Int) 255 (by decide) (by decide) w
    rwa [show (n : Int) % 255 = ((n % 255 : Nat) : Int) by simp] at h
  have HM := Lib.hid hm
  have HM0 := Lib.hid hm0
  clear hm hm0
  go_enter Tryz.func29, Tryz.ntmps29
  go_wp2
  clear hmk
  go_loopw [4] (fun b wr => ∃ i : Nat, b = .int .i64 i ∧ i ≤ 16 ∧ wr.rowIs w.heap.size 5 16 (byF (valF n i)) ∧ Below w.heap.size w wr) (fun b _ => 16 - (intOf b).toNat)
  case atStart => exact ⟨0, rfl, by omega, (World.rowIs_made _ _ _ _).congr (by simp [byF, valF]), (Below.refl _ _).alloc (Nat.le_refl _) _⟩
  case round =>
    obtain ⟨i, rfl, hi, hrow, hb⟩ := hrel
    by_cases hlt : i < 16
    · have hc := hrow.cell hlt
      have hf := hrow.frozen i
      have hx : ((n : Int) + (i : Int) * (n : Int)) % 251 = ((UInt8.ofNat ((n + i * n) % 251)).toNat : Int) := by rw [← byte_small _ (by omega)]; simp
      have hnx := Lib.hid (val_next hrow hx)
      have hw : wrap64 ((n : Int) + wrap64 ((i : Int) * (n : Int))) = (n : Int) + (i : Int) * (n : Int) := by
        have h1 : (i : Int) * (n : Int) ≤ 16 * 100000 := by
          have h2 : i * n ≤ 16 * 100000 := Nat.mul_le_mul (by omega) hn
          have h3 : ((i * n : Nat) : Int) ≤ ((16 * 100000 : Nat) : Int) := Int.ofNat_le.2 h2
          simpa using h3
        have h4 : (0 : Int) ≤ (i : Int) * (n : Int) := Int.mul_nonneg (by omega) (by omega)
        unfold wrap64
        omega
      have hmi := HM.out i hlt
      rw [← hw] at hmi
      have HMi := Lib.hid hmi
      clear hmi hw
      clear hrow hx
      go_wp2_with (go_at_call 18; ((with_reducible refine (HMi.out _).mono ?_); rintro e w1 ⟨rfl, rfl⟩))
      go_roundw
      case rel => exact ⟨i + 1, by go_num, by omega, hnx.out, hb.setCell (Nat.le_refl _) _⟩
      case measure => simp [intOf]; omega
    · obtain rfl : i = 16 := by omega
      have hc := hrow.cell (i := 0) (by omega)
      have hf := hrow.frozen 0
      have hx : 1 + (n : Int) % 255 = ((UInt8.ofNat (1 + n % 255)).toNat : Int) := by rw [← byte_small _ (by omega)]; simp
      have hnx := row_put hrow (i := 0) _ hx
      have hcv := conv_row hnx
      have hL : (List.range 16).map (fun j => if j = 0 then UInt8.ofNat (1 + n % 255) else valF n 16 j) = valueL n := rfl
      rw [hL] at hcv
      clear hrow hx hnx hL
      generalize hZ : (⟨(valueL n).toArray⟩ : ByteArray) = Z at hcv
      have HZ := Lib.hid hZ
      clear hZ
      go_wp2_with (go_at_call 18; ((with_reducible refine (HM0.out _).mono ?_); rintro e w1 ⟨rfl, rfl⟩))
      go_ret
      exact ⟨by rw [HZ.out]; rfl, hb.setCell (Nat.le_refl _) _⟩
end Go.Proofs.YtnmhnjjehglcfaaGreat

/- The walks of the layout's own small functions: inRange, planned; and the document's 'of'. -/
namespace Go.Proofs.YtnmhnjjehglcfaaGreat
open Go.RowKit LayMath
/-- a configuration as a value -/
def confV (z s b q d h : Int) : Value := .agg #[.int .i64 z, .int .i64 s, .int .i64 b, .int .i64 q, .int .i64 d, .int .i64 h]
theorem conf_info : (Tryz.prog.info? 101).map (·.size) = some 6 := by kernel_rfl
end Go.Proofs.YtnmhnjjehglcfaaGreat

/- The walks of the layout's Of and Check, the program's and the document's own. -/
namespace Go.Proofs.YtnmhnjjehglcfaaGreat
open Go.RowKit Plan LayMath
abbrev confRow (z s b q d h : Int) : Obj := .cells #[.int .i64 z, .int .i64 s, .int .i64 b, .int .i64 q, .int .i64 d, .int .i64 h] 101
/-- a load of a whole row at an operation with a guard that says yes -/
theorem load_lit_g {P : Program} {ops : Array Oper} {rest : List Oper} {a : Act} {w : World} {Q : Exit → Act → World → Prop} (ty : TypeId) (x : Operand) {dst : Option Tmp} {t' : TypeId} {pos : String} {after : Array Edge} {j : Nat} {y : Bool}
    (g : Nat) {t : TypeId} {cs : Array Value} {fr : Nat × Nat} {d : TypeDesc} (hw : Region.wanted ⟨dst, .load ty x, t', pos, after, some (j, y)⟩ (yielded ops a.tmps) = true) (hx : a.eval x = .pointer (some ⟨g, 0, none⟩)) (hg : w.heap[g]? = some (.cells cs t fr))
    (hu : P.underlying ty = some d) (hd : (match d with | .struct _ | .array _ _ => true | _ => false) = true) (hi : (P.info? ty).map (·.size) = some cs.size)
    (h : wpList P ops Q rest (a.put dst (.agg cs)) w) : wpList P ops Q (⟨dst, .load ty x, t', pos, after, some (j, y)⟩ :: rest) a w :=
  BigFrame.wpList_want hw fun _ hK => wp_load_row ty x rfl g hx t cs fr d hg hu hd hi (hK _ _ h)
end Go.Proofs.YtnmhnjjehglcfaaGreat
