/- Texts that belong together, part 24. -/
import Derived.Test.YtnmhnjjehglcfaaGreatPack22
import Derived.Test.YtnmhnjjehglcfaaGreatPack23
import Derived.Deep.DeepCutAuto

/- A part of the walk of the laws' histories: an operation returns. -/
namespace Go.Proofs.YtnmhnjjehglcfaaGreat.Ents
open Go.RowKit Plan HisMath LinMath ModMath Rws Env LayMath
theorem wrap_one (z : Nat) (h : z ≤ 1000) : wrap64 (1 + (z : Int)) = 1 + (z : Int) := by unfold wrap64; omega
theorem kwrap_one (z : Nat) (h : z ≤ 1000) : IntKind.i64.wrap (1 + (z : Int)) = 1 + (z : Int) := by rw [IntWalk.i64_in _ (by omega)]
theorem made_value (dv : Nat) (W : World) (h : dv ≤ 1000) : Calls Tryz.prog 29 #[.int .i64 (1 + (dv : Int))] W fun e w' => e = .returned (.string ⟨(valueL (1 + dv)).toArray⟩) ∧ Below W.heap.size W w' := by
  have h9 := value_any (1 + dv) (by omega) W
  rw [show ((1 + dv : Nat) : Int) = 1 + (dv : Int) by omega] at h9
  exact h9
end Go.Proofs.YtnmhnjjehglcfaaGreat.Ents

/- The walk of the document's visit: the search for linearizations of one block. -/
namespace Go.Proofs.YtnmhnjjehglcfaaGreat.Ents
open Go.RowKit Plan HisMath LinMath Rws Env LayMath Bits
abbrev seenT (mb : Nat) (Sn : List (Int × ByteArray)) : Thing := .any (fun b => b = mb) (fun W => StSeen W mb Sn)
abbrev srT (g : Nat) (oa : Option Addr) (on oc : Nat) (fa : Option Addr) (fc : Nat) (mb : Nat) (ea : Option Addr) (en ec : Nat) : Thing := .box g (.cells #[.slice oa on oc, .slice fa on fc, .map (some mb), .slice ea en ec] 98 (0, 0))
abbrev xT (X : Nat) (D : Nat) (v : ByteArray) : Thing := .box X (.cells #[.int .i64 (D : Int), .string v] 87)
section
variable {w W : World} {T : List Thing} {mb : Nat} {Sn : List (Int × ByteArray)}
variable {ops : Array Oper} {Q : Exit → Act → World → Prop} {S : World → Prop}
end
section
variable {L O : List Ev} {w0 w w' : World} {F : Nat → Prop} {T : List Thing} {g mb on oc fc : Nat} {oa fa : Option Addr} {all : Bool} {D : Nat} {v : ByteArray} {ea ea' : Option Addr} {en ec en' ec' : Nat} {Sn Sn' : List (Int × ByteArray)} {El El' : List ByteArray}
end
/-- where the search of a state stands: which operations have been tried, what was seen and found -/
structure VSt (L O : List Ev) (w0 w : World) (F : Nat → Prop) (T : List Thing) (g mb on oc fc : Nat) (oa fa : Option Addr) (all : Bool) (D : Nat) (v v0 : ByteArray) (ea : Option Addr) (en ec : Nat) (Sn : List (Int × ByteArray)) (El : List ByteArray) (i X : Nat) (wx : World) (ea2 : Option Addr) (en2 ec2 : Nat) (Sn2 : List (Int × ByteArray)) (El2 : List ByteArray) : Prop where
  K : Env w0 wx (xT X D v :: srT g oa on oc fa fc mb ea2 en2 ec2 :: seenT mb Sn2 :: T)
  k0 : Keep w0 F w (srT g oa on oc fa fc mb ea en ec :: seenT mb Sn :: T) wx (xT X D v :: srT g oa on oc fa fc mb ea2 en2 ec2 :: seenT mb Sn2 :: T)
  lo : VList wx (Quiet w0 F wx (xT X D v :: srT g oa on oc fa fc mb ea2 en2 ec2 :: seenT mb Sn2 :: T)) oa on oc O
  lf : TList IR wx (Quiet w0 F wx (xT X D v :: srT g oa on oc fa fc mb ea2 en2 ec2 :: seenT mb Sn2 :: T)) fa on fc (firstE L O on on)
  le : SList wx (Quiet w0 F wx (xT X D v :: srT g oa on oc fa fc mb ea2 en2 ec2 :: seenT mb Sn2 :: T)) ea2 en2 ec2 El2
  asc : AscS El2
  inn : ∀ u ∈ El2, u ∈ valsL v0 O
  all0 : all = false → El2 = []
  st : VStep L O D v Sn (· ∈ El) i Sn2 (· ∈ El2)
section
variable {L O : List Ev} {w0 w wx w2 : World} {F : Nat → Prop} {T : List Thing} {g mb on oc fc i X : Nat} {oa fa : Option Addr} {all : Bool} {D : Nat} {v v0 : ByteArray} {ea ea2 : Option Addr} {en ec en2 ec2 : Nat} {Sn Sn2 : List (Int × ByteArray)} {El El2 : List ByteArray}
theorem vst_on (h : VSt L O w0 w F T g mb on oc fc oa fa all D v v0 ea en ec Sn El i X wx ea2 en2 ec2 Sn2 El2) (hb : Below wx.heap.size wx w2) : VSt L O w0 w F T g mb on oc fc oa fa all D v v0 ea en ec Sn El i X w2 ea2 en2 ec2 Sn2 El2 :=
  ⟨h.K.on hb, h.k0.trans (h.K.keep_on hb), h.lo.keep (h.K.keep_on hb), h.lf.keep (h.K.keep_on hb), h.le.keep (h.K.keep_on hb), h.asc, h.inn, h.all0, h.st⟩
theorem VSt.drew (h : VSt L O w0 w F T g mb on oc fc oa fa all D v v0 ea en ec Sn El i X wx ea2 en2 ec2 Sn2 El2) : VSt L O w0 w F T g mb on oc fc oa fa all D v v0 ea en ec Sn El i X wx.drew ea2 en2 ec2 Sn2 El2 := vst_on h (Below.refl _ _).drew
theorem VSt.skip (h : VSt L O w0 w F T g mb on oc fc oa fa all D v v0 ea en ec Sn El i X wx ea2 en2 ec2 Sn2 El2) {x : Ev} (hx : O[i]? = some x) (hn : canP L O D i x → nextV x v = none) : VSt L O w0 w F T g mb on oc fc oa fa all D v v0 ea en ec Sn El (i + 1) X wx ea2 en2 ec2 Sn2 El2 :=
  ⟨h.K, h.k0, h.lo, h.lf, h.le, h.asc, h.inn, h.all0, h.st.skip hx hn⟩
theorem VSt.call {w3 : World} {ea3 : Option Addr} {en3 ec3 : Nat} {Sn3 : List (Int × ByteArray)} {El3 : List ByteArray} (h : VSt L O w0 w F T g mb on oc fc oa fa all D v v0 ea en ec Sn El i X wx ea2 en2 ec2 Sn2 El2) {x : Ev} {u : ByteArray} (hx : O[i]? = some x) (hc : canP L O D i x) (hv : nextV x v = some u) (hu : u ∈ valsL v0 O)
    (K3 : Env w0 w3 (srT g oa on oc fa fc mb ea3 en3 ec3 :: seenT mb Sn3 :: xT X D v :: T)) (k3 : Keep w0 F wx (srT g oa on oc fa fc mb ea2 en2 ec2 :: seenT mb Sn2 :: xT X D v :: T) w3 (srT g oa on oc fa fc mb ea3 en3 ec3 :: seenT mb Sn3 :: xT X D v :: T))
    (le3 : SList w3 (Quiet w0 F w3 (srT g oa on oc fa fc mb ea3 en3 ec3 :: seenT mb Sn3 :: xT X D v :: T)) ea3 en3 ec3 El3) (hp : VPostM L O (D ||| 2 ^ i) u Sn2 (· ∈ El2) Sn3 (· ∈ El3)) (ha : AscS El3) (h0 : all = false → El3 = []) :
    VSt L O w0 w F T g mb on oc fc oa fa all D v v0 ea en ec Sn El (i + 1) X w3 ea3 en3 ec3 Sn3 El3 := by
  have kk := ((h.K.keep_perm (F := F) perm3).trans k3).trans (K3.keep_perm perm3')
  refine ⟨K3.perm perm3', h.k0.trans kk, h.lo.keep kk, h.lf.keep kk, le3.keep (K3.keep_perm perm3'), ha, fun y hy => ?_, h0, h.st.call hx hc hv hp⟩
  rcases hp.only y hy with h1 | h1
  · exact h.inn y h1
  · exact ends_in h1 hu
end
end Go.Proofs.YtnmhnjjehglcfaaGreat.Ents

/- The walks of the document's Block and Values: a search from its beginning. -/
namespace Go.Proofs.YtnmhnjjehglcfaaGreat.Ents
open Go.RowKit Plan HisMath LinMath Rws Env LayMath Bits
/-- what Block leaves -/
def BlkPost (v : ByteArray) (L : List Ev) (w : World) (r : Ending) (w' : World) : Prop :=
  ∃ (la : Option Addr) (ln lc : Nat) (l : List Int) (b : Bool), r = .returned (.tuple #[.slice la ln lc, .bool b]) ∧ TList IR w' (fun x => w.heap.size ≤ x) la ln lc l ∧ Below w.heap.size w w' ∧
    (b = true ↔ singleB v L = true ∧ ∃ o, linE [v] L o = 0) ∧ (b = true → linE [v] L l = 0) ∧ (b = false → l = [])
/-- what Values leaves -/
def ValPost (v : ByteArray) (L : List Ev) (w : World) (r : Ending) (w' : World) : Prop :=
  ∃ (a : Option Addr) (n c : Nat) (E : List ByteArray), r = .returned (.slice a n c) ∧ SList w' (fun x => w.heap.size ≤ x) a n c E ∧ Below w.heap.size w w' ∧ AscS E ∧ ∀ u, u ∈ E ↔ endV v L u
end Go.Proofs.YtnmhnjjehglcfaaGreat.Ents

/- The walk of the document's Can: whether a history has a linearization, block by block. -/
namespace Go.Proofs.YtnmhnjjehglcfaaGreat.LinMath
open HisMath ModMath
end Go.Proofs.YtnmhnjjehglcfaaGreat.LinMath
namespace Go.Proofs.YtnmhnjjehglcfaaGreat.Ents
open Go.RowKit Plan HisMath LinMath Rws Env LayMath CmdMath
end Go.Proofs.YtnmhnjjehglcfaaGreat.Ents

/- What the program promises of linearizations; the walk of the laws' answered. -/
namespace Go.Proofs.YtnmhnjjehglcfaaGreat.Ents
open Go.RowKit Plan HisMath LinMath Rws Env LayMath
/-- what Find leaves -/
def FndPost (B : List ByteArray) (L : List Ev) (w : World) (r : Ending) (w' : World) : Prop :=
  ∃ (la : Option Addr) (ln lc : Nat) (l : List Int) (b : Bool), r = .returned (.tuple #[.slice la ln lc, .bool b]) ∧ TList IR w' (fun x => w.heap.size ≤ x) la ln lc l ∧ Below w.heap.size w w' ∧
    (b = true ↔ CanP B L) ∧ (b = true → linE B L l = 0) ∧ (b = false → l = [])
structure LinearOk : Prop where
  check : ∀ (F G I : Nat → Prop) (B : List ByteArray) (L : List Ev) (o : List Int) (a b e : Option Addr) (n c m d p q : Nat) (w : World), SList w F a n c B → VList w G b m d L → TList IR w I e p q o → n ≤ 8796093022208 → m ≤ 100000 → p ≤ 100000 →
    Calls Tryz.prog 12 #[.slice a n c, .slice b m d, .slice e p q] w fun r w' => r = .returned (.int .i64 (linE B L o)) ∧ Below w.heap.size w w'
  block : ∀ (F : Nat → Prop) (v : ByteArray) (L : List Ev) (a : Option Addr) (n c : Nat) (w : World), VList w F a n c L → n ≤ 100000 → Calls Tryz.prog 20 #[.string v, .slice a n c] w (BlkPost v L w)
  values : ∀ (F : Nat → Prop) (v : ByteArray) (L : List Ev) (a : Option Addr) (n c : Nat) (w : World), VList w F a n c L → n ≤ 100000 → Calls Tryz.prog 22 #[.string v, .slice a n c] w (ValPost v L w)
  find : ∀ (F G : Nat → Prop) (B : List ByteArray) (L : List Ev) (a b : Option Addr) (n c m d : Nat) (w : World), SList w F a n c B → VList w G b m d L → n ≤ 8796093022208 → m ≤ 100000 →
    Calls Tryz.prog 17 #[.slice a n c, .slice b m d] w (FndPost B L w)
end Go.Proofs.YtnmhnjjehglcfaaGreat.Ents
