/- Texts that belong together, part 3. -/
import Derived.Test.YthhggiifbldaeaaPack2
import Derived.Test.YthhggiifbldaeaaProg

/- Zoned devices as plain lists: what the functions answer, nothing of the program. -/
namespace Go.Proofs.Ythhggiifbldaeaa.ZnsMath

structure Zone where
  state : Int
  durable : Int
  sectors : List ByteArray
structure Dev where
  size : Int
  maxOpen : Int
  maxActive : Int
  zones : List Zone
def openB (s : Int) : Bool := s == 1 || s == 2
def activeB (s : Int) : Bool := openB s || s == 3
def countO (Z : List Zone) : Nat := (Z.filter fun z => openB z.state).length
def countA (Z : List Zone) : Nat := (Z.filter fun z => activeB z.state).length
/-- all sectors have the right length -/
def sizesB (L : List ByteArray) : Bool := L.all fun s => s.size == 40
def rightB (z : Zone) (size : Int) : Bool :=
  decide (¬(z.state < 0 ∨ 5 < z.state ∨ size < z.sectors.length ∨ z.durable < 0 ∨ (z.sectors.length : Int) < z.durable)) && sizesB z.sectors &&
    (if z.state = 0 ∨ z.state = 5 then z.sectors.length == 0 else if z.state = 4 then z.durable == z.sectors.length else decide ((z.sectors.length : Int) < size))
def configB (D : Dev) : Bool := decide (¬((D.zones.length : Int) < 1 ∨ 32 < (D.zones.length : Int) ∨ D.size < 3 ∨ 64 < D.size ∨ D.maxActive < 1 ∨ (D.zones.length : Int) < D.maxActive ∨ D.maxOpen < 1 ∨ D.maxActive < D.maxOpen))
def rightsB (Z : List Zone) (size : Int) : Bool := Z.all fun z => rightB z size
def checkE (D : Dev) : Int :=
  if configB D = false then 11
  else if rightsB D.zones D.size = false then 6
  else if D.maxOpen < countO D.zones ∨ D.maxActive < countA D.zones then 6
  else 0
/-- the error that the functions on a zone have in common, but for a zone that is offline -/
def zoneE (D : Dev) (k : Int) : Int := if checkE D ≠ 0 then checkE D else if k < 0 ∨ (D.zones.length : Int) ≤ k then 5 else 0
def empty : Zone := ⟨0, 0, []⟩
def stateAt (D : Dev) (k : Int) : Int := (D.zones.getD k.toNat empty).state
def beginE (D : Dev) (k : Int) : Int := if zoneE D k ≠ 0 then zoneE D k else if stateAt D k = 5 then 6 else 0
def zero : Dev := ⟨0, 0, 0, []⟩
def newD (zones size op act : Int) : Dev := ⟨size, op, act, List.replicate zones.toNat empty⟩
def newE (zones size op act : Int) : Int := if zones < 1 ∨ 32 < zones then 11 else checkE (newD zones size op act)
def newR (zones size op act : Int) : Dev := if newE zones size op act = 0 then newD zones size op act else zero
def withZ (D : Dev) (k : Nat) (z : Zone) : Dev := ⟨D.size, D.maxOpen, D.maxActive, D.zones.set k z⟩
def shut (z : Zone) : Zone := ⟨if z.sectors.length = 0 then 0 else 3, z.durable, z.sectors⟩
/-- the first zone that was opened by an append, or how many zones there are -/
def firstOpen : List Zone → Nat
  | [] => 0
  | z :: Z => if z.state = 1 then 0 else firstOpen Z + 1
/-- the device in which one zone was closed, where this must be -/
def cleared (D : Dev) : Dev := if D.maxOpen ≤ countO D.zones then withZ D (firstOpen D.zones) (shut (D.zones.getD (firstOpen D.zones) empty)) else D
def roomE (D : Dev) (k : Nat) : Int :=
  if D.maxOpen ≤ countO D.zones ∧ firstOpen D.zones = D.zones.length then 8
  else if activeB (D.zones.getD k empty).state = false ∧ D.maxActive ≤ countA (cleared D).zones then 9
  else 0
def roomR (D : Dev) (k : Nat) : Dev := if roomE D k = 0 then cleared D else D
def appendE (D : Dev) (k : Int) (s : ByteArray) : Int :=
  if zoneE D k ≠ 0 then zoneE D k
  else if s.size ≠ 40 then 2
  else if stateAt D k = 5 then 6
  else if stateAt D k = 4 then 7
  else if openB (stateAt D k) = true then 0
  else roomE D k.toNat
/-- the device in which there is room for an open zone -/
def ready (D : Dev) (k : Int) : Dev := if openB (stateAt D k) = true then D else roomR D k.toNat
def appended (z : Zone) (s : ByteArray) (size : Int) : Zone :=
  if ((z.sectors.length : Int) + 1 = size) then ⟨4, size, z.sectors ++ [s]⟩ else ⟨if openB z.state = true then z.state else 1, z.durable, z.sectors ++ [s]⟩
def appendR (D : Dev) (k : Int) (s : ByteArray) : Dev :=
  if appendE D k s = 0 then withZ (ready D k) k.toNat (appended ((ready D k).zones.getD k.toNat empty) s D.size) else D
def appendO (D : Dev) (k : Int) (s : ByteArray) : Int :=
  if appendE D k s = 0 then (((ready D k).zones.getD k.toNat empty).sectors.length : Int) else 0
def readE (D : Dev) (k off : Int) : Int :=
  if beginE D k ≠ 0 then beginE D k else if off < 0 ∨ ((D.zones.getD k.toNat empty).sectors.length : Int) ≤ off then 10 else 0
def readR (D : Dev) (k off : Int) : ByteArray := if readE D k off = 0 then (D.zones.getD k.toNat empty).sectors.getD off.toNat ⟨#[]⟩ else ⟨#[]⟩
def resetR (D : Dev) (k : Int) : Dev := if beginE D k = 0 then withZ D k.toNat empty else D
def finished (z : Zone) : Zone := ⟨4, z.sectors.length, z.sectors⟩
def finishR (D : Dev) (k : Int) : Dev := if beginE D k = 0 then withZ D k.toNat (finished (D.zones.getD k.toNat empty)) else D
def openE (D : Dev) (k : Int) : Int :=
  if beginE D k ≠ 0 then beginE D k
  else if stateAt D k = 4 then 7
  else if openB (stateAt D k) = true then 0
  else roomE D k.toNat
def held (z : Zone) : Zone := ⟨2, z.durable, z.sectors⟩
def openR (D : Dev) (k : Int) : Dev := if openE D k = 0 then withZ (ready D k) k.toNat (held ((ready D k).zones.getD k.toNat empty)) else D
def closeE (D : Dev) (k : Int) : Int :=
  if beginE D k ≠ 0 then beginE D k
  else if activeB (stateAt D k) = true then 0
  else 6
def closeR (D : Dev) (k : Int) : Dev :=
  if closeE D k = 0 then (if stateAt D k = 3 then D else withZ D k.toNat (shut (D.zones.getD k.toNat empty))) else D
end Go.Proofs.Ythhggiifbldaeaa.ZnsMath

/- Victims: what layer 14 of the document says of them. Plain mathematics. -/
namespace Go.Proofs.Ythhggiifbldaeaa.VicMath
open ZnsMath CntMath EpoMath
/-- the records of a zone -/
def usedV (sz : Int) (Z : List Zone) (z : Int) : Int :=
  if z < 0 then 0 else match Z[z.toNat]? with
  | none => 0
  | some y => if (y.sectors.length : Int) = sz then sz - 1 else (y.sectors.length : Int)
/-- what is asked of a zone that is an index of all lists -/
def fitV (R : List Ret) (h k sz z : Int) (y : Zone) (l p : Int) : Bool :=
  decide (y.state = 4) && decide (p = 0) && !decide (z = h) && !decide (z = k) && !isRet R z && decide (l < sz - 1)
/-- can a zone be a victim -/
def canV (D : Int → Bool) (Z : List Zone) (C : Cnt) (R : List Ret) (h k sz z : Int) : Bool :=
  D z && decide (z < (Z.length : Int)) && decide (z < (C.live.length : Int)) && decide (z < (C.pend.length : Int)) &&
    match Z[z.toNat]?, C.live[z.toNat]?, C.pend[z.toNat]? with
    | some y, some l, some p => fitV R h k sz z y l p
    | _, _, _ => false
section
variable {D : Int → Bool} {Z : List Zone} {C : Cnt} {R : List Ret} {h k sz : Int}
theorem can_no {z : Int} (hn : D z = false ∨ (Z.length : Int) ≤ z ∨ (C.live.length : Int) ≤ z ∨ (C.pend.length : Int) ≤ z) : canV D Z C R h k sz z = false := by
  unfold canV
  rcases hn with hn | hn | hn | hn
  · simp [hn]
  · simp [show ¬ z < (Z.length : Int) by omega]
  · simp [show ¬ z < (C.live.length : Int) by omega]
  · simp [show ¬ z < (C.pend.length : Int) by omega]
theorem can_at {i : Nat} {y : Zone} {l p : Int} (hD : D (i : Int) = true) (hz : Z[i]? = some y) (hl : C.live[i]? = some l) (hp : C.pend[i]? = some p) : canV D Z C R h k sz (i : Int) = fitV R h k sz (i : Int) y l p := by
  have h1 := (List.getElem?_eq_some_iff.1 hz).1
  have h2 := (List.getElem?_eq_some_iff.1 hl).1
  have h3 := (List.getElem?_eq_some_iff.1 hp).1
  unfold canV
  rw [hD, decide_eq_true (show (i : Int) < (Z.length : Int) by omega), decide_eq_true (show (i : Int) < (C.live.length : Int) by omega), decide_eq_true (show (i : Int) < (C.pend.length : Int) by omega)]
  simp only [Int.toNat_natCast, hz, hl, hp, Bool.and_self, Bool.true_and]
/-- the zone that can be one with the least live, of the first j -/
def bestV (can : Int → Bool) (L : List Int) : Nat → Int × Bool
  | 0 => (0, false)
  | j + 1 => let b := bestV can L j; if can (j : Int) && (!b.2 || decide (L.getD j 0 < L.getD b.1.toNat 0)) then ((j : Int), true) else b
/-- what could be given back, of the first j -/
def deadV (can : Int → Bool) (L : List Int) (sz : Int) : Nat → Int
  | 0 => 0
  | j + 1 => if can (j : Int) then deadV can L sz j + sz - 1 - L.getD j 0 else deadV can L sz j
end
end Go.Proofs.Ythhggiifbldaeaa.VicMath
