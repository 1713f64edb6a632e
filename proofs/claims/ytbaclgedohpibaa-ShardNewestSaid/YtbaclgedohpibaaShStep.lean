
/- The steps of the laws of the shard: lists that lie in blocks from B on. -/
import Derived.Test.YtbaclgedohpibaaShRaw
import Derived.Test.YtbaclgedohpibaaEntMath2
namespace Go.Proofs.Ytbaclgedohpibaa.Ents
open Go.RowKit Plan EntMath
abbrev From (B : Nat) : Nat → Prop := fun b => B ≤ b
theorem EList.from' {w : World} {B : Nat} {a : Option Addr} {n c : Nat} {L : List Ent} (h : EList w (From B) a n c L) : EList w (fun b => B ≤ b ∧ b < w.heap.size) a n c L := h.cut
theorem EList.plus {w : World} {B N : Nat} {a : Option Addr} {n c : Nat} {L : List Ent} (h : EList w (Plus (fun b => B ≤ b ∧ b < N) N) a n c L) (hB : B ≤ N) : EList w (From B) a n c L :=
  h.mono fun b _ h => by rcases h with h | h; (· exact h.1); (· exact Nat.le_trans hB h)
theorem Same.grown {F : Nat → Prop} {w w' : World} {g : Nat} (h : w.grownBy w' (some g)) (hF : ¬ F g) : Same F w w' :=
  ⟨h.size, fun b hb hl => h.block b hl (fun e => hF (by rw [← Option.some.inj e]; exact hb))⟩
theorem e_below {a b c : World} {B g : Nat} (h : Below B a b) (hg : b.grownBy c (some g)) (hB : B ≤ g) (hs : B ≤ b.heap.size) : Below B a c :=
  h.grown hg hs (fun k hk => by obtain rfl := Option.some.inj hk; exact hB)
/-- what an install leaves -/
def StepPost (w : World) (B n : Nat) (L : List Ent) (r : Ending) (w' : World) : Prop :=
  ∃ (yb yk yv ym yz yo : Int) (yB : Bool) (a : Option Addr) (m c : Nat), r = .returned (.tuple #[.slice a m c, .agg #[.int .i64 yb, .int .i64 yk, .int .i64 yv, .int .i64 ym, .int .i64 yz, .int .i64 yo], .bool yB]) ∧ EList w' (From B) a m c L ∧ m ≤ n + 1 ∧ Below w.heap.size w w'
theorem step_of {w w' : World} {B n : Nat} {S : List Ent} {e E : Ent} {b : Bool} {r : Ending} (h : InstPost w (fun b => B ≤ b ∧ b < w.heap.size) (installL S e) E b r w') (hB : B ≤ w.heap.size) (hn : S.length = n) : StepPost w B n (installL S e) r w' := by
  obtain ⟨a, m, c, rfl, hl, hb⟩ := h
  refine ⟨E.block, E.kind, E.version, E.move, E.zone, E.offset, b, a, m, c, rfl, hl.plus hB, ?_, hb⟩
  have h1 := install_length S e
  have h2 := hl.length
  omega
theorem sh_install (H : ShardOk) {B n c : Nat} {a : Option Addr} {S : List Ent} (eb ek ev em ez eo : Int) (w : World) (hl : EList w (From B) a n c S) (hn : n ≤ 1000) (hB : B ≤ w.heap.size) :
    Calls Try.prog 19 #[.slice a n c, .agg #[.int .i64 eb, .int .i64 ek, .int .i64 ev, .int .i64 em, .int .i64 ez, .int .i64 eo]] w (StepPost w B n (installL S ⟨eb, ek, ev, em, ez, eo⟩)) :=
  (H.install _ S ⟨eb, ek, ev, em, ez, eo⟩ a n c w (fun _ h => h.2) hl.from' (by omega)).mono fun _ _ h => step_of h hB hl.length
theorem ref_install {B n c : Nat} {a : Option Addr} {S : List Ent} (eb ek ev em ez eo : Int) (w : World) (hl : EList w (From B) a n c S) (hn : n ≤ 1000) (hB : B ≤ w.heap.size) :
    Calls Try.prog 18 #[.slice a n c, .agg #[.int .i64 eb, .int .i64 ek, .int .i64 ev, .int .i64 em, .int .i64 ez, .int .i64 eo]] w (StepPost w B n (installL S ⟨eb, ek, ev, em, ez, eo⟩)) :=
  (refInstall_any _ S ⟨eb, ek, ev, em, ez, eo⟩ a n c w (fun _ h => h.2) hl.from' (by omega)).mono fun _ _ h => step_of h hB hl.length
/-- what a relocation leaves -/
def MovePost (w : World) (B n : Nat) (L : List Ent) (M : Bool) (r : Ending) (w' : World) : Prop :=
  ∃ (a : Option Addr) (m c : Nat), r = .returned (.tuple #[.slice a m c, .bool M]) ∧ EList w' (From B) a m c L ∧ m ≤ n + 1 ∧ Below w.heap.size w w'
theorem move_of {w w' : World} {B n : Nat} {S : List Ent} {b v fz fo tz to m : Int} {M : Bool} {r : Ending} (h : RelPost w (fun b => B ≤ b ∧ b < w.heap.size) (relocL S b v fz fo tz to m) M r w') (hB : B ≤ w.heap.size) (hn : S.length = n) : MovePost w B n (relocL S b v fz fo tz to m) M r w' := by
  obtain ⟨a, k, c, rfl, hl, hb⟩ := h
  refine ⟨a, k, c, rfl, hl.plus hB, ?_, hb⟩
  have h1 := reloc_length S b v fz fo tz to m
  have h2 := hl.length
  omega
theorem sh_reloc (H : ShardOk) {B n c : Nat} {a : Option Addr} {S : List Ent} (b v fz fo tz to m : Int) (w : World) (hl : EList w (From B) a n c S) (hn : n ≤ 1000) (hB : B ≤ w.heap.size) :
    Calls Try.prog 21 #[.slice a n c, .int .i64 b, .int .i64 v, .agg #[.int .i64 fz, .int .i64 fo], .agg #[.int .i64 tz, .int .i64 to], .int .i64 m] w (MovePost w B n (relocL S b v fz fo tz to m) (moves S b v fz fo tz to m)) :=
  (H.relocate _ S b v fz fo tz to m a n c w (fun _ h => h.2) hl.from' (by omega)).mono fun _ _ h => move_of h hB hl.length
theorem ref_reloc {B n c : Nat} {a : Option Addr} {S : List Ent} (b v fz fo tz to m : Int) (w : World) (hl : EList w (From B) a n c S) (hn : n ≤ 1000) (hB : B ≤ w.heap.size) :
    Calls Try.prog 16 #[.slice a n c, .int .i64 b, .int .i64 v, .agg #[.int .i64 fz, .int .i64 fo], .agg #[.int .i64 tz, .int .i64 to], .int .i64 m] w (MovePost w B n (relocL S b v fz fo tz to m) (moves S b v fz fo tz to m)) :=
  (refRelocate_any _ S b v fz fo tz to m a n c w hl.from' (by omega)).mono fun _ _ h => move_of h hB hl.length
/-- what a drop leaves -/
def CutPost (w : World) (B n : Nat) (L M : List Ent) (r : Ending) (w' : World) : Prop :=
  ∃ (a : Option Addr) (m c : Nat) (b : Option Addr) (k d : Nat), r = .returned (.tuple #[.slice a m c, .slice b k d]) ∧ EList w' (From B) a m c L ∧ EList w' (From B) b k d M ∧ m ≤ n ∧ Below w.heap.size w w'
theorem stay_length (L : List Ent) (c : Int) : (stayL L c).length ≤ L.length := by
  unfold stayL
  split
  · exact List.length_filter_le _ _
  · simp
theorem cut_of {w w' : World} {B n : Nat} {S : List Ent} {c : Int} {r : Ending} (h : DropPost w (fun b => B ≤ b ∧ b < w.heap.size) (stayL S c) (goneL S c) r w') (hB : B ≤ w.heap.size) (hn : S.length = n) : CutPost w B n (stayL S c) (goneL S c) r w' := by
  obtain ⟨a, k, d, b, j, f, rfl, hl, hg, hb⟩ := h
  refine ⟨a, k, d, b, j, f, rfl, hl.plus hB, hg.plus hB, ?_, hb⟩
  have h1 := stay_length S c
  have h2 := hl.length
  omega
theorem sh_drop (H : ShardOk) {B n c : Nat} {a : Option Addr} {S : List Ent} (cut : Int) (w : World) (hl : EList w (From B) a n c S) (hn : n ≤ 1000) (hB : B ≤ w.heap.size) :
    Calls Try.prog 23 #[.slice a n c, .int .i64 cut] w (CutPost w B n (stayL S cut) (goneL S cut)) :=
  (H.drop _ S cut a n c w (fun _ h => h.2) hl.from' (by omega)).mono fun _ _ h => cut_of h hB hl.length
theorem ref_drop {B n c : Nat} {a : Option Addr} {S : List Ent} (cut : Int) (w : World) (hl : EList w (From B) a n c S) (hn : n ≤ 1000) (hB : B ≤ w.heap.size) :
    Calls Try.prog 17 #[.slice a n c, .int .i64 cut] w (CutPost w B n (stayL S cut) (goneL S cut)) :=
  (refDrop_any _ S cut a n c w hl.from' (by omega)).mono fun _ _ h => cut_of h hB hl.length
/-- what Find leaves -/
def SeekPost (w : World) (o : Option Ent) (r : Ending) (w' : World) : Prop :=
  (∃ (xb xk xv xm xz xo : Int), o = some ⟨xb, xk, xv, xm, xz, xo⟩ ∧ r = .returned (.tuple #[.agg #[.int .i64 xb, .int .i64 xk, .int .i64 xv, .int .i64 xm, .int .i64 xz, .int .i64 xo], .bool true]) ∧ Below w.heap.size w w') ∨
  (o = none ∧ r = .returned (.tuple #[.agg #[.int .i64 0, .int .i64 0, .int .i64 0, .int .i64 0, .int .i64 0, .int .i64 0], .bool false]) ∧ Below w.heap.size w w')
theorem seek_of {w w' : World} {S : List Ent} {b : Int} {r : Ending} (h : r = .returned (findV S b) ∧ Below w.heap.size w w') (hv : validB S = true) : SeekPost w (lookE S b) r w' := by
  obtain ⟨rfl, hb⟩ := h
  rw [← find_look hv]
  cases hf : findE S b with
  | none => exact .inr ⟨rfl, by rw [findV_none hf], hb⟩
  | some x => exact .inl ⟨x.block, x.kind, x.version, x.move, x.zone, x.offset, rfl, by rw [findV_some hf], hb⟩
theorem sh_find (H : ShardOk) {B n c : Nat} {a : Option Addr} {S : List Ent} (b : Int) (w : World) (hl : EList w (From B) a n c S) (hn : n ≤ 1000) (hv : validB S = true) :
    Calls Try.prog 20 #[.slice a n c, .int .i64 b] w (SeekPost w (lookE S b)) :=
  (H.find _ S b a n c w hl (by omega)).mono fun _ _ h => seek_of h hv
theorem ref_find {B n c : Nat} {a : Option Addr} {S : List Ent} (b : Int) (w : World) (hl : EList w (From B) a n c S) (hv : validB S = true) :
    Calls Try.prog 14 #[.slice a n c, .int .i64 b] w (SeekPost w (lookE S b)) :=
  (refFind_any _ S b a n c w hl).mono fun _ _ h => seek_of h hv
/-- an entry that is made of numbers -/
def RolledPost (w : World) (base g : Nat) (zs : List Int) (k : Nat) (r : Ending) (w' : World) : Prop :=
  ∃ (eb ek ev em ez eo : Int), r = .returned (.agg #[.int .i64 eb, .int .i64 ek, .int .i64 ev, .int .i64 em, .int .i64 ez, .int .i64 eo]) ∧ okE ⟨eb, ek, ev, em, ez, eo⟩ = true ∧ (0 ≤ eb ∧ eb ≤ 4) ∧ ev ≤ 12 ∧ (em ≤ 2) ∧ Dice w' base g zs (stp6 zs k) ∧ w.grownBy w' (some g)
theorem rolled_any (w : World) (base g : Nat) (zs : List Int) (k : Nat) (hd : Dice w base g zs k) (hl : zs.length ≤ 100000) :
    Calls Try.prog 13 #[.pointer (some ⟨g, 0, none⟩)] w (RolledPost w base g zs k) :=
  (lawEntry_any w base g zs k hd hl).mono fun r w' h => by
    obtain ⟨rfl, h2, h3⟩ := h
    obtain ⟨o1, o2, o3, o4, o5⟩ := mk_ok zs k
    exact ⟨_, _, _, _, _, _, rfl, o1, ⟨o2, o3⟩, o4, o5, h2, h3⟩
end Go.Proofs.Ytbaclgedohpibaa.Ents
