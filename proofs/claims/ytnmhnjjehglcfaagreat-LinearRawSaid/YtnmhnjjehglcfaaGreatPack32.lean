/- Texts that belong together, part 32. -/
import Derived.Test.YtnmhnjjehglcfaaGreatPack29
import Derived.Test.YtnmhnjjehglcfaaGreatPack31
import Derived.MapKept
import Derived.Maps.Own
import Derived.DeepKeys3
import Derived.Deep.DeepCutAuto

/- The program's map that holds true at each state that has come: asked, and written. -/
namespace Go.Proofs.YtnmhnjjehglcfaaGreat.Ents
open Go.RowKit Plan HisMath Rws Env
open MapKept (run_setObj_map)
open Go.ChangeMaps (setBlock heap_setBlock_same heap_setBlock_other)
theorem lsa_und : Tryz.prog.underlying 129 = some (.map 136 4) := by kernel_rfl
theorem lsa_wide : (match Tryz.prog.underlying 136 with | some (.array _ _) | some (.struct _) => true | _ => false) = true := by kernel_rfl
set_option maxRecDepth 100000 in
theorem lsa_law : WideMaps.KeyLaw Tryz.prog 136 := deep_law (m := 3) (by omega) (by kernel_rfl) (by kernel_rfl) lsa_wide
theorem lsa_types : decide (0 < Tryz.prog.types.size) = true := by kernel_rfl
theorem lsa_keyT : Tryz.prog.keyType 136 = true := by kernel_rfl
theorem lsa_cells : Tryz.prog.cellsOf 136 = 2 := by kernel_rfl
def lsaV (p : Int × ByteArray) : Value := .agg #[.int .u32 p.1, .string p.2]
theorem lsa_key {p : Int × ByteArray} (h0 : 0 ≤ p.1) (h1 : p.1 ≤ 4294967295) (hs : p.2.size ≤ maxLen) : ∃ l, keyOf Tryz.prog 136 (lsaV p) = some l := by
  have hf : (lsaV p).formed Tryz.prog 136 = true := by
    unfold lsaV Value.formed
    rw [Tryz.underlying136]
    simp [lsa_cells]
  have hw : (Lit.int .u32 p.1).wf = true := by simp [Lit.wf, IntKind.min, IntKind.max, IntKind.signed, IntKind.bits]; omega
  obtain ⟨m, hm⟩ : ∃ m, Tryz.prog.types.size + 1 = m + 2 := ⟨Tryz.prog.types.size - 1, by have := of_decide_eq_true lsa_types; omega⟩
  have hl : ∃ ls, Tryz.prog.keyLits (Tryz.prog.types.size + 1) 136 (lsaV p).cells.toList = some ls := by
    rw [hm]
    refine ⟨[.int .u32 p.1, .string p.2.data.toList], ?_⟩
    have ki : Tryz.prog.keyLits (m + 1) 133 [.int .u32 p.1] = some [.int .u32 p.1] := by
      unfold Program.keyLits
      rw [Tryz.underlying133]
      simp [hw]
    have ks : Tryz.prog.keyLits (m + 1) 9 [.string p.2] = some [.string p.2.data.toList] := by
      unfold Program.keyLits
      rw [Tryz.underlying9]
      simp [hs]
    have c1 : Tryz.prog.cellsOf 133 = 1 := by kernel_rfl
    have c2 : Tryz.prog.cellsOf 9 = 1 := by kernel_rfl
    unfold Program.keyLits
    rw [Tryz.underlying136]
    simp [lsaV, Value.cells, lsa_cells, c1, c2, ki, ks]
  obtain ⟨ls, hl⟩ := hl
  unfold keyOf
  rw [Tryz.underlying136]
  simp only [lsa_keyT, hf, Bool.and_true, if_true, hl, Option.map_some]
  exact ⟨_, rfl⟩
def lhasSt (L : List (Int × ByteArray)) (p : Int × ByteArray) : Bool := L.any fun q => decide (q.1 = p.1 ∧ q.2 = p.2)
theorem lhasSt_iff {L : List (Int × ByteArray)} {p : Int × ByteArray} : lhasSt L p = true ↔ p ∈ L := by
  unfold lhasSt
  rw [List.any_eq_true]
  constructor
  · rintro ⟨q, hq, h⟩
    have := of_decide_eq_true h
    obtain ⟨a, b⟩ := p
    obtain ⟨c, d⟩ := q
    simp only at this
    rw [← this.1, ← this.2]; exact hq
  · intro h
    exact ⟨p, h, decide_eq_true ⟨rfl, rfl⟩⟩
theorem lhasSt_no {L : List (Int × ByteArray)} {p : Int × ByteArray} (h : ¬ p ∈ L) : lhasSt L p = false := by
  cases hq : lhasSt L p
  · rfl
  · exact absurd (lhasSt_iff.1 hq) h
/-- block B is a map that holds true at each one of a list of states -/
def LsSeen (W : World) (B : Nat) (L : List (Int × ByteArray)) : Prop :=
  ∃ es ck, W.heap[B]? = some (.map es ck) ∧ (∀ e ∈ es.toList, e.val = .bool true ∧ ∃ l, keyOf Tryz.prog 136 e.key = some l) ∧ ∀ p : Int × ByteArray, (∃ e ∈ es.toList, e.key = lsaV p) ↔ p ∈ L
theorem LsSeen.new {W : World} {B : Nat} (h : W.heap[B]? = some (.map #[] 0)) : LsSeen W B [] :=
  ⟨_, _, h, by simp, by simp⟩
theorem LsSeen.on {W W' : World} {B : Nat} {L : List (Int × ByteArray)} (h : LsSeen W B L) (hb : W'.heap[B]? = W.heap[B]?) : LsSeen W' B L := by
  obtain ⟨es, ck, h1, h2⟩ := h
  exact ⟨es, ck, hb.trans h1, h2⟩
theorem LsSeen.lt {W : World} {B : Nat} {L : List (Int × ByteArray)} (h : LsSeen W B L) : B < W.heap.size := by
  obtain ⟨es, ck, h1, h2⟩ := h
  exact (Array.getElem?_eq_some_iff.1 h1).1
theorem lsaSeen_look {W : World} {B : Nat} {L : List (Int × ByteArray)} (h : LsSeen W B L) {p : Int × ByteArray} (h0 : 0 ≤ p.1) (h1 : p.1 ≤ 4294967295) (hs : p.2.size ≤ maxLen) : (Instr.lookup 129 (.map (some B)) (lsaV p) false).run Tryz.prog W = .ok (.bool (lhasSt L p)) W := by
  obtain ⟨es, ck, hb, hk, hL⟩ := h
  obtain ⟨lx, hkey⟩ := lsa_key h0 h1 hs
  have hz : (zeroValue 4).run Tryz.prog W = .ok (.bool false) W := by kernel_rfl
  rcases lsa_law.find W hkey es.toList (fun e he => (hk e he).2) with ⟨h1, h2⟩ | ⟨j, e, h1, h2, h3⟩
  · have hr : ¬ p ∈ L := fun hq => by
      obtain ⟨e, he, hz⟩ := (hL p).2 hq
      exact absurd hz (h2 e he)
    rw [lhasSt_no hr]
    simp [Instr.lookup, run_underlying lsa_und, MapKept.run_getObj_map hb, lsa_law.check W es.isEmpty hkey, h1, hz, Result.andThen]
  · have he : e ∈ es.toList := List.mem_of_getElem? h2
    rw [lhasSt_iff.2 ((hL p).1 ⟨e, he, h3⟩)]
    simp [Instr.lookup, run_underlying lsa_und, MapKept.run_getObj_map hb, lsa_law.check W es.isEmpty hkey, h1, (hk e he).1, Result.andThen]
theorem lsaSeen_put {W : World} {B : Nat} {L : List (Int × ByteArray)} (h : LsSeen W B L) {p : Int × ByteArray} (h0 : 0 ≤ p.1) (h1 : p.1 ≤ 4294967295) (hs : p.2.size ≤ maxLen) (hp : ¬ p ∈ L) :
    ∃ W', (Instr.mapUpdate 129 (.map (some B)) (lsaV p) (.bool true)).run Tryz.prog W = .ok () W' ∧ LsSeen W' B (p :: L) ∧ W.grownBy W' (some B) := by
  obtain ⟨es, ck, hb, hk, hL⟩ := h
  obtain ⟨lx, hkey⟩ := lsa_key h0 h1 hs
  rcases lsa_law.find W hkey es.toList (fun e he => (hk e he).2) with ⟨h1, h2⟩ | ⟨j, e, h1, h2, h3⟩
  · refine ⟨setBlock W B (.map (es.push { key := lsaV p, val := .bool true, born := ck }) (ck + 1)), ?_, ⟨_, _, heap_setBlock_same hb _, ?_, ?_⟩, ⟨rfl, rfl, rfl, by simp [setBlock], fun i _ hi => heap_setBlock_other hb _ (fun e => hi (by rw [e]))⟩⟩
    · simp [Instr.mapUpdate, run_underlying lsa_und, MapKept.run_getObj_map hb, lsa_law.check W false hkey, h1, run_setObj_map _ hb, Result.andThen, setBlock]
    · intro x hx
      simp only [Array.toList_push, List.mem_append, List.mem_singleton] at hx
      rcases hx with hx | rfl
      · exact hk x hx
      · exact ⟨rfl, lx, hkey⟩
    · intro q
      rw [List.mem_cons, ← hL q]
      simp only [Array.toList_push, List.mem_append, List.mem_singleton]
      constructor
      · rintro ⟨x, hx | rfl, hz⟩
        · exact .inr ⟨x, hx, hz⟩
        · left
          unfold lsaV at hz
          obtain ⟨a, b⟩ := p
          obtain ⟨c, d⟩ := q
          simp at hz
          rw [hz.1, hz.2]
      · rintro (rfl | ⟨x, hx, hz⟩)
        · exact ⟨_, .inr rfl, rfl⟩
        · exact ⟨x, .inl hx, hz⟩
  · exact absurd ((hL p).1 ⟨e, List.mem_of_getElem? h2, h3⟩) hp
abbrev lseenT (mb : Nat) (Sn : List (Int × ByteArray)) : Thing := .any (fun b => b = mb) (fun W => LsSeen W mb Sn)
theorem lseen_holds {B mb : Nat} {W : World} {Sn : List (Int × ByteArray)} (h : LsSeen W mb Sn) (hb : B ≤ mb) : (lseenT mb Sn).holds B W :=
  ⟨h, fun b e => by subst e; exact ⟨hb, h.lt⟩, fun _ _ h1 _ hs => h1.on (hs mb rfl)⟩
section
variable {w W : World} {T : List Thing} {mb : Nat} {Sn : List (Int × ByteArray)}
theorem lenv_seen (K : Env w W T) (i : Nat) (h : T[i]? = some (lseenT mb Sn)) : LsSeen W mb Sn := (K.at' i h).1
theorem lenv_put (K : Env w W T) (i : Nat) (h : T[i]? = some (lseenT mb Sn)) {p : Int × ByteArray} (h0 : 0 ≤ p.1) (h1 : p.1 ≤ 4294967295) (hs : p.2.size ≤ maxLen) (hp : ¬ p ∈ Sn) :
    ∃ W', (Instr.mapUpdate 129 (.map (some mb)) (lsaV p) (.bool true)).run Tryz.prog W = .ok () W' ∧ Env w W' (T.set i (lseenT mb (p :: Sn))) ∧ ∀ F, Keep w F W T W' (T.set i (lseenT mb (p :: Sn))) := by
  obtain ⟨W', hr, hs', hg⟩ := lsaSeen_put (lenv_seen K i h) h0 h1 hs hp
  have hb : w.heap.size ≤ mb := (((K.at' i h).2.1) mb rfl).1
  have := K.change (y := lseenT mb (p :: Sn)) i h (Chg.grown hg rfl) (lseen_holds hs' hb) (fun g e => .inl e)
  exact ⟨W', hr, this.1, this.2⟩
variable {ops : Array Oper} {Q : Exit → Act → World → Prop} {S : World → Prop}
theorem ltake_seen {o : Oper} {r : List (Option Oper × Bool)} {a : Act} (m k : Operand) {p : Int × ByteArray} {b : Bool} (hw : Region.wanted o (yielded ops a.tmps) = true) (ho : o.op = .lookup 129 m k false)
    (hm : a.eval m = .map (some mb)) (hk : a.eval k = .agg #[.int .u32 p.1, .string p.2]) (hS : ∀ w, S w → LsSeen w mb Sn) (h0 : 0 ≤ p.1) (h1 : p.1 ≤ 4294967295) (hs : p.2.size ≤ maxLen) (hb : lhasSt Sn p = b)
    (h : goes Tryz.prog ops Q S r (a.put o.dst (.bool b)) w) : goes Tryz.prog ops Q S ((some o, true) :: r) a w :=
  take (.bool b) hw (fun w9 h9 => by
    have := lsaSeen_look (hS w9 h9) h0 h1 hs
    rw [hb] at this
    unfold lsaV at this
    simp [execOp, ho, hm, hk, this, Result.andThen]) h
theorem lwp_seen {o : Oper} {a : Act} {K : Act → World → Prop} {W' : World} (m k v : Operand) {p : Int × ByteArray} (ho : o.op = .mapUpdate 129 m k v) (hm : a.eval m = .map (some mb)) (hk : a.eval k = .agg #[.int .u32 p.1, .string p.2]) (hv : a.eval v = .bool true)
    (hr : (Instr.mapUpdate 129 (.map (some mb)) (lsaV p) (.bool true)).run Tryz.prog W = .ok () W') (h : K (a.put o.dst undef) W') : o.wp Tryz.prog a W K Q := by
  unfold lsaV at hr
  unfold Oper.wp
  simp [execOp, ho, hm, hk, hv, hr, Result.andThen]
  exact h
end
end Go.Proofs.YtnmhnjjehglcfaaGreat.Ents

/- The walk of the document's visit: the search for linearizations of one block. -/
namespace Go.Proofs.YtnmhnjjehglcfaaGreat.Ents
open Go.RowKit Plan HisMath LinMath Rws Env LayMath Bits
abbrev seenT (mb : Nat) (Sn : List (Int × ByteArray)) : Thing := .any (fun b => b = mb) (fun W => StSeen W mb Sn)
abbrev srT (g : Nat) (oa : Option Addr) (on oc : Nat) (fa : Option Addr) (fc : Nat) (mb : Nat) (ea : Option Addr) (en ec : Nat) : Thing := .box g (.cells #[.slice oa on oc, .slice fa on fc, .map (some mb), .slice ea en ec] 98 (0, 0))
abbrev xT (X : Nat) (D : Nat) (v : ByteArray) : Thing := .box X (.cells #[.int .i64 (D : Int), .string v] 87)
theorem seen_holds {B mb : Nat} {W : World} {Sn : List (Int × ByteArray)} (h : StSeen W mb Sn) (hb : B ≤ mb) : (seenT mb Sn).holds B W :=
  ⟨h, fun b e => by subst e; exact ⟨hb, h.lt⟩, fun _ _ h1 _ hs => h1.on (hs mb rfl)⟩
section
variable {w W : World} {T : List Thing} {mb : Nat} {Sn : List (Int × ByteArray)}
theorem env_seen (K : Env w W T) (i : Nat) (h : T[i]? = some (seenT mb Sn)) : StSeen W mb Sn := (K.at' i h).1
theorem env_put (K : Env w W T) (i : Nat) (h : T[i]? = some (seenT mb Sn)) {p : Int × ByteArray} (h0 : -9223372036854775808 ≤ p.1) (h1 : p.1 ≤ 9223372036854775807) (hs : p.2.size ≤ maxLen) (hp : ¬ p ∈ Sn) :
    ∃ W', (Instr.mapUpdate 96 (.map (some mb)) (staV p) (.bool true)).run Tryz.prog W = .ok () W' ∧ Env w W' (T.set i (seenT mb (p :: Sn))) ∧ ∀ F, Keep w F W T W' (T.set i (seenT mb (p :: Sn))) := by
  obtain ⟨W', hr, hs', hg⟩ := staSeen_put (env_seen K i h) h0 h1 hs hp
  have hb : w.heap.size ≤ mb := (((K.at' i h).2.1) mb rfl).1
  have := K.change (y := seenT mb (p :: Sn)) i h (Chg.grown hg rfl) (seen_holds hs' hb) (fun g e => .inl e)
  exact ⟨W', hr, this.1, this.2⟩
variable {ops : Array Oper} {Q : Exit → Act → World → Prop} {S : World → Prop}
theorem take_seen {o : Oper} {r : List (Option Oper × Bool)} {a : Act} (m k : Operand) {p : Int × ByteArray} {b : Bool} (hw : Region.wanted o (yielded ops a.tmps) = true) (ho : o.op = .lookup 96 m k false)
    (hm : a.eval m = .map (some mb)) (hk : a.eval k = .agg #[.int .i64 p.1, .string p.2]) (hS : ∀ w, S w → StSeen w mb Sn) (h0 : -9223372036854775808 ≤ p.1) (h1 : p.1 ≤ 9223372036854775807) (hs : p.2.size ≤ maxLen) (hb : hasSt Sn p = b)
    (h : goes Tryz.prog ops Q S r (a.put o.dst (.bool b)) w) : goes Tryz.prog ops Q S ((some o, true) :: r) a w :=
  take (.bool b) hw (fun w9 h9 => by
    have := staSeen_look (hS w9 h9) h0 h1 hs
    rw [hb] at this
    unfold staV at this
    simp [execOp, ho, hm, hk, this, Result.andThen]) h
theorem wp_seen {o : Oper} {a : Act} {K : Act → World → Prop} {W' : World} (m k v : Operand) {p : Int × ByteArray} (ho : o.op = .mapUpdate 96 m k v) (hm : a.eval m = .map (some mb)) (hk : a.eval k = .agg #[.int .i64 p.1, .string p.2]) (hv : a.eval v = .bool true)
    (hr : (Instr.mapUpdate 96 (.map (some mb)) (staV p) (.bool true)).run Tryz.prog W = .ok () W') (h : K (a.put o.dst undef) W') : o.wp Tryz.prog a W K Q := by
  unfold staV at hr
  unfold Oper.wp
  simp [execOp, ho, hm, hk, hv, hr, Result.andThen]
  exact h
end
theorem sta_info : (Tryz.prog.info? 87).map (·.size) = some 2 := by kernel_rfl
def VisPost (L O : List Ev) (w0 w : World) (F : Nat → Prop) (T : List Thing) (g mb on oc fc : Nat) (oa fa : Option Addr) (all : Bool) (D : Nat) (v : ByteArray) (ea : Option Addr) (en ec : Nat) (Sn : List (Int × ByteArray)) (El : List ByteArray) (r : Ending) (w' : World) : Prop :=
  ∃ Sn' ea' en' ec' El', Env w0 w' (srT g oa on oc fa fc mb ea' en' ec' :: seenT mb Sn' :: T) ∧ Keep w0 F w (srT g oa on oc fa fc mb ea en ec :: seenT mb Sn :: T) w' (srT g oa on oc fa fc mb ea' en' ec' :: seenT mb Sn' :: T) ∧
    SList w' (Quiet w0 F w' (srT g oa on oc fa fc mb ea' en' ec' :: seenT mb Sn' :: T)) ea' en' ec' El' ∧
    ((r = .returned (.tuple #[.slice none 0 0, .bool false]) ∧ VPostM L O D v Sn (· ∈ El) Sn' (· ∈ El') ∧ AscS El' ∧ (all = false → El' = [])) ∨
     (all = false ∧ ∃ la ln lc l D' v', r = .returned (.tuple #[.slice la ln lc, .bool true]) ∧ TList IR w' (Quiet w0 F w' (srT g oa on oc fa fc mb ea' en' ec' :: seenT mb Sn' :: T)) la ln lc l ∧ Path L O D v l D' v' ∧ goalP O D'))
section
variable {L O : List Ev} {w0 w w' : World} {F : Nat → Prop} {T : List Thing} {g mb on oc fc : Nat} {oa fa : Option Addr} {all : Bool} {D : Nat} {v : ByteArray} {ea ea' : Option Addr} {en ec en' ec' : Nat} {Sn Sn' : List (Int × ByteArray)} {El El' : List ByteArray}
theorem vis_no (K : Env w0 w' (srT g oa on oc fa fc mb ea' en' ec' :: seenT mb Sn' :: T)) (k : Keep w0 F w (srT g oa on oc fa fc mb ea en ec :: seenT mb Sn :: T) w' (srT g oa on oc fa fc mb ea' en' ec' :: seenT mb Sn' :: T))
    (le : SList w' (Quiet w0 F w' (srT g oa on oc fa fc mb ea' en' ec' :: seenT mb Sn' :: T)) ea' en' ec' El') (hp : VPostM L O D v Sn (· ∈ El) Sn' (· ∈ El')) (ha : AscS El') (h0 : all = false → El' = []) :
    VisPost L O w0 w F T g mb on oc fc oa fa all D v ea en ec Sn El (.returned (.tuple #[.slice none 0 0, .bool false])) w' := ⟨Sn', ea', en', ec', El', K, k, le, .inl ⟨rfl, hp, ha, h0⟩⟩
theorem vis_yes (K : Env w0 w' (srT g oa on oc fa fc mb ea' en' ec' :: seenT mb Sn' :: T)) (k : Keep w0 F w (srT g oa on oc fa fc mb ea en ec :: seenT mb Sn :: T) w' (srT g oa on oc fa fc mb ea' en' ec' :: seenT mb Sn' :: T))
    (le : SList w' (Quiet w0 F w' (srT g oa on oc fa fc mb ea' en' ec' :: seenT mb Sn' :: T)) ea' en' ec' El') (h0 : all = false) {la : Option Addr} {ln lc : Nat} {l : List Int} {D' : Nat} {v' : ByteArray}
    (ll : TList IR w' (Quiet w0 F w' (srT g oa on oc fa fc mb ea' en' ec' :: seenT mb Sn' :: T)) la ln lc l) (hP : Path L O D v l D' v') (hg : goalP O D') :
    VisPost L O w0 w F T g mb on oc fc oa fa all D v ea en ec Sn El (.returned (.tuple #[.slice la ln lc, .bool true])) w' := ⟨Sn', ea', en', ec', El', K, k, le, .inr ⟨h0, la, ln, lc, l, D', v', rfl, ll, hP, hg⟩⟩
end
/-- where the search of a state stands: which operations have been tried, what was seen and found -/
structure VSt (L O : List Ev) (w0 w : World) (F : Nat → Prop) (T : List Thing) (g mb on oc fc : Nat) (oa fa : Option Addr) (all : Bool) (D : Nat) (v v0 : ByteArray) (ea : Option Addr) (en ec : Nat) (Sn : List (Int × ByteArray)) (El : List ByteArray) (i X : Nat) (wx : World) (ea2 : Option Addr) (en2 ec2 : Nat) (Sn2 : List (Int × ByteArray)) (El2 : List ByteArray) : Prop where
  K : Env w0 wx (xT X D v :: srT g oa on oc fa fc mb ea2 en2 ec2 :: seenT mb Sn2 :: T)
  k0 : Keep w0 F w (srT g oa on oc fa fc mb ea en ec :: seenT mb Sn :: T) wx (xT X D v :: srT g oa on oc fa fc mb ea2 en2 ec2 :: seenT mb Sn2 :: T)
  lo : VList wx (Quiet w0 F wx (xT X D v :: srT g oa on oc fa fc mb ea2 en2 ec2 :: seenT mb Sn2 :: T)) oa on oc O
  lf : TList IR wx (Quiet w0 F wx (xT X D v :: srT g oa on oc fa fc mb ea2 en2 ec2 :: seenT mb Sn2 :: T)) fa on fc (firstE L O on on)
  le : SList wx (Quiet w0 F wx (xT X D v :: srT g oa on oc fa fc mb ea2 en2 ec2 :: seenT mb Sn2 :: T)) ea2 en2 ec2 El2
  asc : AscS El2
  inn : ∀ u ∈ El2, u ∈ valsL v0 O
  all0 : all = false → El2 = []
  st : VStep L O D v Sn (· ∈ El) i Sn2 (· ∈ El2)
section
variable {L O : List Ev} {w0 w wx w2 : World} {F : Nat → Prop} {T : List Thing} {g mb on oc fc i X : Nat} {oa fa : Option Addr} {all : Bool} {D : Nat} {v v0 : ByteArray} {ea ea2 : Option Addr} {en ec en2 ec2 : Nat} {Sn Sn2 : List (Int × ByteArray)} {El El2 : List ByteArray}
theorem vst_on (h : VSt L O w0 w F T g mb on oc fc oa fa all D v v0 ea en ec Sn El i X wx ea2 en2 ec2 Sn2 El2) (hb : Below wx.heap.size wx w2) : VSt L O w0 w F T g mb on oc fc oa fa all D v v0 ea en ec Sn El i X w2 ea2 en2 ec2 Sn2 El2 :=
  ⟨h.K.on hb, h.k0.trans (h.K.keep_on hb), h.lo.keep (h.K.keep_on hb), h.lf.keep (h.K.keep_on hb), h.le.keep (h.K.keep_on hb), h.asc, h.inn, h.all0, h.st⟩
theorem VSt.drew (h : VSt L O w0 w F T g mb on oc fc oa fa all D v v0 ea en ec Sn El i X wx ea2 en2 ec2 Sn2 El2) : VSt L O w0 w F T g mb on oc fc oa fa all D v v0 ea en ec Sn El i X wx.drew ea2 en2 ec2 Sn2 El2 := vst_on h (Below.refl _ _).drew
theorem VSt.skip (h : VSt L O w0 w F T g mb on oc fc oa fa all D v v0 ea en ec Sn El i X wx ea2 en2 ec2 Sn2 El2) {x : Ev} (hx : O[i]? = some x) (hn : canP L O D i x → nextV x v = none) : VSt L O w0 w F T g mb on oc fc oa fa all D v v0 ea en ec Sn El (i + 1) X wx ea2 en2 ec2 Sn2 El2 :=
  ⟨h.K, h.k0, h.lo, h.lf, h.le, h.asc, h.inn, h.all0, h.st.skip hx hn⟩
theorem vst_end (h : VSt L O w0 w F T g mb on oc fc oa fa all D v v0 ea en ec Sn El i X wx ea2 en2 ec2 Sn2 El2) (hi : i = O.length) : VisPost L O w0 w F T g mb on oc fc oa fa all D v ea en ec Sn El (.returned (.tuple #[.slice none 0 0, .bool false])) wx :=
  vis_no h.K.tail (h.k0.trans (h.K.keep_sub fun _ h => List.mem_cons_of_mem _ h)) (h.le.fewer (fun _ h => List.mem_cons_of_mem _ h)) (h.st.done hi) h.asc h.all0
theorem VSt.call {w3 : World} {ea3 : Option Addr} {en3 ec3 : Nat} {Sn3 : List (Int × ByteArray)} {El3 : List ByteArray} (h : VSt L O w0 w F T g mb on oc fc oa fa all D v v0 ea en ec Sn El i X wx ea2 en2 ec2 Sn2 El2) {x : Ev} {u : ByteArray} (hx : O[i]? = some x) (hc : canP L O D i x) (hv : nextV x v = some u) (hu : u ∈ valsL v0 O)
    (K3 : Env w0 w3 (srT g oa on oc fa fc mb ea3 en3 ec3 :: seenT mb Sn3 :: xT X D v :: T)) (k3 : Keep w0 F wx (srT g oa on oc fa fc mb ea2 en2 ec2 :: seenT mb Sn2 :: xT X D v :: T) w3 (srT g oa on oc fa fc mb ea3 en3 ec3 :: seenT mb Sn3 :: xT X D v :: T))
    (le3 : SList w3 (Quiet w0 F w3 (srT g oa on oc fa fc mb ea3 en3 ec3 :: seenT mb Sn3 :: xT X D v :: T)) ea3 en3 ec3 El3) (hp : VPostM L O (D ||| 2 ^ i) u Sn2 (· ∈ El2) Sn3 (· ∈ El3)) (ha : AscS El3) (h0 : all = false → El3 = []) :
    VSt L O w0 w F T g mb on oc fc oa fa all D v v0 ea en ec Sn El (i + 1) X w3 ea3 en3 ec3 Sn3 El3 := by
  have kk := ((h.K.keep_perm (F := F) perm3).trans k3).trans (K3.keep_perm perm3')
  refine ⟨K3.perm perm3', h.k0.trans kk, h.lo.keep kk, h.lf.keep kk, le3.keep (K3.keep_perm perm3'), ha, fun y hy => ?_, h0, h.st.call hx hc hv hp⟩
  rcases hp.only y hy with h1 | h1
  · exact h.inn y h1
  · exact ends_in h1 hu
end
set_option maxHeartbeats 8000000 in
set_option maxRecDepth 20000 in
theorem refVisit_any (L O : List Ev) (g mb on oc fc : Nat) (oa fa : Option Addr) (all : Bool) (v0 : ByteArray) (hon : on ≤ 20) : ∀ (m D : Nat), 2 ^ on - D ≤ m → D < 2 ^ on → ∀ (v : ByteArray) (w0 w : World) (F : Nat → Prop) (T : List Thing) (ea : Option Addr) (en ec : Nat) (Sn : List (Int × ByteArray)) (El : List ByteArray),
    Env w0 w (srT g oa on oc fa fc mb ea en ec :: seenT mb Sn :: T) → VList w (Quiet w0 F w (srT g oa on oc fa fc mb ea en ec :: seenT mb Sn :: T)) oa on oc O → TList IR w (Quiet w0 F w (srT g oa on oc fa fc mb ea en ec :: seenT mb Sn :: T)) fa on fc (firstE L O on on) →
    SList w (Quiet w0 F w (srT g oa on oc fa fc mb ea en ec :: seenT mb Sn :: T)) ea en ec El → AscS El → (∀ u ∈ El, u ∈ valsL v0 O) → v ∈ valsL v0 O → v.size = 16 → (all = false → El = []) → Known L O D Sn (· ∈ El) →
    Calls Tryz.prog 52 #[.pointer (some ⟨g, 0, none⟩), .agg #[.int .i64 (D : Int), .string v], .bool all] w (VisPost L O w0 w F T g mb on oc fc oa fa all D v ea en ec Sn El) := by
  intro m
  induction m with
  | zero => intro D h1 h2; omega
  | succ m ih =>
    intro D hmD hD v w0 w F T ea en ec Sn El K0 lo lf le hasc hin hv h16 hall hkn
    have hlen : O.length = on := lo.length
    have hD62 : D < 2 ^ 62 := pow_lt62 (by omega) hD
    have IH := Lib.hid ih
    clear ih
    have hp0 : -9223372036854775808 ≤ (D : Int) := by omega
    have hp1 : (D : Int) ≤ 9223372036854775807 := by omega
    have hvl : v.size ≤ maxLen := by rw [h16]; unfold maxLen; decide
    have k0 := K0.keep_al (F := F) (.cells #[.int .i64 (D : Int), .string v] 87)
    have K := K0.al (.cells #[.int .i64 (D : Int), .string v] 87)
    replace lo := lo.keep k0
    replace lf := lf.keep k0
    replace le := le.keep k0
    have hD62h := Lib.hid hD62
    have hmDh := Lib.hid (show 2 ^ on - D ≤ m + 1 ∧ D < 2 ^ on from ⟨hmD, hD⟩)
    clear hmD hD hD62
    by_cases hs : ((D : Int), v) ∈ Sn
    · have hq := Lib.hid (visit_seen hkn hs)
      go_enter Tryz.func52, Tryz.ntmps52
      generalize hw0 : w.alloc (.cells #[.int .i64 (D : Int), .string v] 87) = w9 at *
      go_upto_region 1 with fail
      refine Plan.start (fun W => W.cell? ⟨g, 2, none⟩ = some (.map (some mb)) ∧ W.heap[w.heap.size]? = some (.cells #[.int .i64 (D : Int), .string v] 87) ∧ StSeen W mb Sn) [(0, true), (1, true), (2, true), (3, true), (4, true), (5, true)] (by kernel_rfl) (by kernel_rfl) (by kernel_rfl) (by kernel_rfl) ⟨cell_of_row _ _ 2 _ _ _ (K.drew.get 1 rfl), K.drew.get 0 rfl, env_seen K.drew 2 rfl⟩ ?_
      simp only [List.map_cons, List.map_nil, List.getElem?_toArray, List.getElem?_cons_zero, List.getElem?_cons_succ]
      replace k0 := k0.trans K.keep_drew
      replace lo := lo.keep K.keep_drew
      replace lf := lf.keep K.keep_drew
      replace le := le.keep K.keep_drew
      replace K := K.drew
      clear hw0
      generalize w9.drew = w8 at *
      iterate 4 (first | (refine Plan.take ?_ (by rfl) ?_ ?_; rotate_left; (· rintro w9 ⟨u0, u1, u2⟩; go_simp; all_goals (with_reducible rfl)); simp only [Act.put, List.setIfInBounds_toArray, List.set_cons_zero, List.set_cons_succ]))
      refine Plan.take_load 87 (.tmp 4) w.heap.size _ (by rfl) rfl (by rfl) (fun w9 h9 => h9.2.1) Tryz.underlying87 rfl sta_info ?_
      simp only [Act.put, List.setIfInBounds_toArray, List.set_cons_zero, List.set_cons_succ]
      refine take_seen (p := ((D : Int), v)) (.tmp 19) (.tmp 20) (by rfl) rfl (by rfl) (by rfl) (fun w9 h9 => h9.2.2) hp0 hp1 hvl (hasSt_iff.2 hs) ?_
      simp only [Act.put, List.setIfInBounds_toArray, List.set_cons_zero, List.set_cons_succ]
      refine Plan.ends ?_
      go_wp2_with fail
      go_ret2
      exact vis_no K.tail (k0.trans (K.keep_sub fun _ h => List.mem_cons_of_mem _ h)) (le.fewer (fun _ h => List.mem_cons_of_mem _ h)) hq.out hasc hall
    · have hh := hasSt_no hs
      go_enter Tryz.func52, Tryz.ntmps52
      generalize hw0 : w.alloc (.cells #[.int .i64 (D : Int), .string v] 87) = w9 at *
      go_upto_region 1 with fail
      refine Plan.start (fun W => W.cell? ⟨g, 2, none⟩ = some (.map (some mb)) ∧ W.heap[w.heap.size]? = some (.cells #[.int .i64 (D : Int), .string v] 87) ∧ StSeen W mb Sn) [(0, true), (1, true), (2, true), (3, true), (4, true), (5, true)] (by kernel_rfl) (by kernel_rfl) (by kernel_rfl) (by kernel_rfl) ⟨cell_of_row _ _ 2 _ _ _ (K.drew.get 1 rfl), K.drew.get 0 rfl, env_seen K.drew 2 rfl⟩ ?_
      simp only [List.map_cons, List.map_nil, List.getElem?_toArray, List.getElem?_cons_zero, List.getElem?_cons_succ]
      replace k0 := k0.trans K.keep_drew
      replace lo := lo.keep K.keep_drew
      replace lf := lf.keep K.keep_drew
      replace le := le.keep K.keep_drew
      replace K := K.drew
      clear hw0
      generalize w9.drew = w8 at *
      iterate 4 (first | (refine Plan.take ?_ (by rfl) ?_ ?_; rotate_left; (· rintro w9 ⟨u0, u1, u2⟩; go_simp; all_goals (with_reducible rfl)); simp only [Act.put, List.setIfInBounds_toArray, List.set_cons_zero, List.set_cons_succ]))
      refine Plan.take_load 87 (.tmp 4) w.heap.size _ (by rfl) rfl (by rfl) (fun w9 h9 => h9.2.1) Tryz.underlying87 rfl sta_info ?_
      simp only [Act.put, List.setIfInBounds_toArray, List.set_cons_zero, List.set_cons_succ]
      refine take_seen (p := ((D : Int), v)) (.tmp 19) (.tmp 20) (by rfl) rfl (by rfl) (by rfl) (fun w9 h9 => h9.2.2) hp0 hp1 hvl hh ?_
      simp only [Act.put, List.setIfInBounds_toArray, List.set_cons_zero, List.set_cons_succ]
      refine Plan.ends ?_
      obtain ⟨W1, hup, K1, k1⟩ := env_put K.drew 2 rfl hp0 hp1 hvl hs
      clear hh
      simp only [List.set] at K1 k1
      go_upto_region 3 with fail
      refine Plan.start (fun W => W.cell? ⟨g, 2, none⟩ = some (.map (some mb)) ∧ W.heap[w.heap.size]? = some (.cells #[.int .i64 (D : Int), .string v] 87)) [(0, true), (1, true), (2, true), (3, true), (4, true), (5, false)] (by kernel_rfl) (by kernel_rfl) (by kernel_rfl) (by kernel_rfl) ⟨cell_of_row _ _ 2 _ _ _ (K.drew.get 1 rfl), K.drew.get 0 rfl⟩ ?_
      simp only [List.map_cons, List.map_nil, List.getElem?_toArray, List.getElem?_cons_zero, List.getElem?_cons_succ]
      iterate 4 (first | (refine Plan.take ?_ (by rfl) ?_ ?_; rotate_left; (· rintro w9 ⟨u0, u1⟩; go_simp; all_goals (with_reducible rfl)); simp only [Act.put, List.setIfInBounds_toArray, List.set_cons_zero, List.set_cons_succ]))
      refine Plan.take_load 87 (.tmp 4) w.heap.size _ (by rfl) rfl (by rfl) (fun w9 h9 => h9.2) Tryz.underlying87 rfl sta_info ?_
      simp only [Act.put, List.setIfInBounds_toArray, List.set_cons_zero, List.set_cons_succ]
      refine Plan.carry (by rfl) (wp_seen (p := ((D : Int), v)) (.tmp 25) (.tmp 26) (.const (.bool true)) rfl (by rfl) (by rfl) (by rfl) hup ?_)
      refine ⟨⟨cell_of_row _ _ 2 _ _ _ (K1.get 1 rfl), K1.get 0 rfl⟩, ?_⟩
      simp only [Act.put]
      refine Plan.ends ?_
      replace k0 := (k0.trans K.keep_drew).trans (k1 F)
      replace lo := (lo.keep K.keep_drew).keep (k1 F)
      replace lf := (lf.keep K.keep_drew).keep (k1 F)
      replace le := (le.keep K.keep_drew).keep (k1 F)
      clear K k1 hup
      have K := K1
      clear K1
      have HMU := Lib.hid (fun W G f m e (hg : W.heap[g]? = some (.cells #[.slice oa on oc, f, m, e] 98 (0, 0))) (hl : VList W G oa on oc O) => refMust_any G O oa on oc g f m e W hg hl (by omega))
      have HGI := Lib.hid (goal_iff (O := O) (D := D) (by omega) hD62h.out)
      have HCI := Lib.hid (fun i x (hx : O[i]? = some x) => can_iff (L := L) (by omega) hD62h.out hx)
      rw [hlen] at HGI HCI
      have hM62 := Lib.hid (pow_lt62 (show on ≤ 60 by omega) (mustN_lt O on))
      have hS62 := Lib.hid (pow_lt62 (show on ≤ 60 by omega) (skipN_lt O on))
      generalize mustN O on = M at *
      generalize skipN O on = SK at *
      have hAN := bits_andNot hM62.out hD62h.out
      generalize andN M D = AN at *
      go_upto_if 36 with (first
        | (go_at_call 81; ((with_reducible refine (HMU.out _ _ _ _ _ (K.get 1 rfl) lo).mono ?_); rintro r9 w2 ⟨rfl, hb⟩; replace k0 := k0.trans (K.keep_on hb); replace lo := lo.keep (K.keep_on hb); replace lf := lf.keep (K.keep_on hb); replace le := le.keep (K.keep_on hb); replace K := K.on hb; clear hb; have hx0 := cell_of_row _ _ 0 _ _ _ (K.get 0 rfl))))
      go_cut [] (fun wx => ∃ ea2 en2 ec2 El2, VSt L O w0 w F T g mb on oc fc oa fa all D v v0 ea en ec Sn El 0 w.heap.size wx ea2 en2 ec2 (((D : Int), v) :: Sn) El2)
      case first =>
        by_cases hz : AN = 0
        · have hgl := Lib.hid (HGI.out.1 hz)
          subst hz
          cases all with
          | false =>
            go_wp2_with fail
            go_ret2
            exact vis_yes K.tail (k0.trans (K.keep_sub fun _ h => List.mem_cons_of_mem _ h)) (le.fewer (fun _ h => List.mem_cons_of_mem _ h)) rfl (TList.nil _ _) (.nil _ _) hgl.out
          | true =>
            have hen : en ≤ 400000 := by have h1 := asc_few hasc hin; have h2 := le.length; omega
            have HPU := Lib.hid (fun W (h : SList W (Quiet w0 F W (xT w.heap.size D v :: srT g oa on oc fa fc mb ea en ec :: seenT mb (((D : Int), v) :: Sn) :: T)) ea en ec El) => refPutS_any _ El v ea en ec W h hen)
            unfold SPost at HPU
            go_upto_region 8 with fail
            refine Plan.start (fun W => W.heap[w.heap.size]? = some (.cells #[.int .i64 (D : Int), .string v] 87) ∧ W.cell? ⟨w.heap.size, 1, none⟩ = some (.string v)) [(0, true), (1, true), (2, true), (3, true), (5, true), (6, true), (4, false), (7, false), (8, true), (9, true), (10, false)] (by kernel_rfl) (by kernel_rfl) (by kernel_rfl) (by kernel_rfl) ⟨K.drew.get 0 rfl, cell_of_row _ _ 1 _ _ _ (K.drew.get 0 rfl)⟩ ?_
            simp only [List.map_cons, List.map_nil, List.getElem?_toArray, List.getElem?_cons_zero, List.getElem?_cons_succ]
            replace k0 := k0.trans (K.keep_drew)
            replace lo := lo.keep (K.keep_drew)
            replace lf := lf.keep (K.keep_drew)
            replace le := le.keep (K.keep_drew)
            replace K := K.drew
            iterate 6 (refine Plan.take ?_ (by rfl) ?_ ?_; rotate_left; (· rintro w9 ⟨u0, u1⟩; go_simp; all_goals (with_reducible rfl)); simp only [Act.put, List.setIfInBounds_toArray, List.set_cons_zero, List.set_cons_succ])
            have hc3 := cell_of_row _ _ 3 _ _ _ (K.get 1 rfl)
            refine Plan.make (by rfl) (.slice ea en ec) _ (by go_simp; all_goals (with_reducible rfl)) ⟨K.get 0 rfl, cell_of_row _ _ 1 _ _ _ (K.get 0 rfl)⟩ ?_
            simp only [Act.put, List.setIfInBounds_toArray, List.set_cons_zero, List.set_cons_succ]
            refine Plan.call (by rfl) 82 _ ?_ (HPU.out _ le) ?_
            · go_simp
            rintro r9 w3 ⟨ea2, en2, ec2, rfl, hx, hb⟩
            have l2 := TList.result K hb hx
            clear hx le hc3
            replace k0 := k0.trans (K.keep_on hb)
            replace lo := lo.keep (K.keep_on hb)
            replace lf := lf.keep (K.keep_on hb)
            replace K := K.on hb
            clear hb
            refine ⟨_, rfl, ⟨K.get 0 rfl, cell_of_row _ _ 1 _ _ _ (K.get 0 rfl)⟩, ?_⟩
            simp only [Act.put, List.setIfInBounds_toArray, List.set_cons_zero, List.set_cons_succ]
            iterate 2 (refine Plan.take ?_ (by rfl) ?_ ?_; rotate_left; (· rintro w9 ⟨u0, u1⟩; go_simp; all_goals (with_reducible rfl)); simp only [Act.put, List.setIfInBounds_toArray, List.set_cons_zero, List.set_cons_succ])
            refine Plan.carry (by rfl) (K.store1 1 rfl 22 (.tmp 48) (.tmp 46) rfl 3 (.slice ea2 en2 ec2) (by rfl) (by rfl) (show 3 < 4 by decide) strs_info1 rfl rfl ?_)
            intro w4 K4 k4
            simp only [List.set, List.setIfInBounds_toArray] at K4 k4
            refine ⟨⟨K4.get 0 rfl, cell_of_row _ _ 1 _ _ _ (K4.get 0 rfl)⟩, ?_⟩
            simp only [Act.put]
            refine Plan.ends ?_
            go_wp2_with fail
            go_meet
            obtain ⟨pa, pm⟩ := put_asc (v := v) hasc
            exact ⟨ea2, en2, ec2, putE El v, K4, k0.trans (k4 F), lo.keep (k4 F), lf.keep (k4 F), l2.keep (k4 F), pa, fun u hu => ((pm u).1 hu).elim (fun e => e ▸ hv) (hin u), fun h => (by cases h), visit_start (fun u hu => (pm u).2 (.inr hu)) (fun u hu => ((pm u).1 hu).elim (fun e => .inr ⟨hgl.out, e⟩) .inl) (fun _ => (pm v).2 (.inl rfl))⟩
        · have hgl := Lib.hid (fun h => hz (HGI.out.2 h))
          have dz : ((AN : Int) == 0) = false := by simpa using hz
          go_wp2_with fail
          go_meet
          exact ⟨ea, en, ec, El, K, k0, lo, lf, le, hasc, hin, hall, visit_start (fun _ h => h) (fun _ h => .inl h) (fun h => (hgl.out h).elim)⟩
      case rest =>
        clear K k0 lo lf le
        obtain ⟨ea2, en2, ec2, El2, VS⟩ := hcut
        go_wp2_with fail
        go_loopw [10] (fun x wr => ∃ (i : Nat) (ea2 : Option Addr) (en2 ec2 : Nat) (Sn2 : List (Int × ByteArray)) (El2 : List ByteArray), x = .int .i64 (i : Int) ∧ i ≤ on ∧ VSt L O w0 w F T g mb on oc fc oa fa all D v v0 ea en ec Sn El i w.heap.size wr ea2 en2 ec2 Sn2 El2) (fun x _ => on - (intOf x).toNat)
        case atStart => exact ⟨0, ea2, en2, ec2, _, El2, rfl, by omega, VS⟩
        case round =>
          clear VS
          obtain ⟨i, ea2, en2, ec2, Sn2, El2, rfl, hi, VS⟩ := hrel
          have hg0 := cell_of_row _ _ 0 _ _ _ (VS.K.get 1 rfl)
          by_cases hlt : i < on
          · obtain ⟨x, X, hx1, hX, -⟩ := ev_at VS.lo i hlt
            subst hx1
            have hEV := Lib.hid (fun W G (h : VList W G (some x) on oc O) => (show EvAt W x i X from by
              obtain ⟨x', e', hx', he', q⟩ := ev_at h i hlt
              obtain rfl := Option.some.inj hx'
              rw [hX] at he'
              obtain rfl := Option.some.inj he'
              exact q))
            have hfg := (firstE_get (L := L) (n := on) on i X hlt (by omega) hX).1
            have hF62 := Lib.hid (pow_lt62 (show on ≤ 60 by omega) (setN_lt L O X.serial on))
            have HC := HCI.out i X hX
            generalize setN L O X.serial on = F1 at *
            obtain ⟨y, hy, -⟩ : ∃ y, fa = some y ∧ True := by
              obtain ⟨y, e, h1, _⟩ := VS.lf.at' irOk i hlt
              exact ⟨y, h1, trivial⟩
            subst hy
            have hF1 := Lib.hid (fun W G (h : TList IR W G (some y) on fc (firstE L O on on)) => (show W.cell? (y.add i) = some (.int .i64 (F1 : Int)) from by
              obtain ⟨y', e', h1, h2, h3⟩ := h.at' irOk i hlt
              obtain rfl := Option.some.inj h1
              rw [hfg] at h2
              obtain rfl := Option.some.inj h2
              have := h3 0 _ rfl
              rwa [show i * IR.sz + 0 = i from Nat.mul_one i] at this))
            clear hfg
            have hgr := Lib.hid (fun h => bit_grows (D := D) (i := i) (n := on) h hlt hmDh.out.2)
            have hpw := pow_wrap (i := i) (by omega)
            have h2i : 2 ^ i < 2 ^ 62 := Nat.pow_lt_pow_right (by decide) (by omega)
            obtain ⟨P2, hP2⟩ : ∃ p, 2 ^ i = p := ⟨_, rfl⟩
            rw [hP2] at HC hpw h2i hgr
            have hb1 := bits_and hD62h.out h2i
            have hb2 := bits_and hS62.out h2i
            have hb3 := bits_andNot hF62.out hD62h.out
            have hA362 : andN F1 D < 2 ^ 62 := Nat.lt_of_le_of_lt (andN_le hF62.out) hF62.out
            have hb4 := bits_and hA362 hM62.out
            have hb5 := bits_or hD62h.out h2i
            generalize andN F1 D = A3 at *
            generalize D &&& P2 = A1 at *
            generalize SK &&& P2 = A2 at *
            generalize A3 &&& M = A4 at *
            replace hP2 := Lib.hid hP2
            replace HC := Lib.hid HC
            have hiI : (i : Int) < (on : Int) := by omega
            have hio : i ≤ oc := by have := VS.lo.cap.1; omega
            have hif : i ≤ fc := by have := VS.lf.cap.1; omega
            clear h2i hA362
            have VD := VS.drew
            clear VS
            go_upto_region 13 with fail
            rw [hpw]
            clear hpw
            go_cut [86] (fun s wx => ∃ b : Bool, s = .bool b ∧ wx = wr.drew ∧ RowKit.Hid (b = false ↔ canP L O D i X))
            case first =>
              by_cases h1 : A1 = 0
              · by_cases h2 : A2 = 0
                · by_cases h4 : A4 = 0
                  · have hres := Lib.hid (HC.out.2 ⟨h1, h2, h4⟩)
                    subst h1 h2 h4
                    refine Plan.start (fun W => W.cell? ⟨w.heap.size, 0, none⟩ = some (.int .i64 (D : Int)) ∧ W.cell? ⟨g, 1, none⟩ = some (.slice (some y) on fc) ∧ W.cell? (y.add i) = some (.int .i64 (F1 : Int))) [(0, true), (1, true), (2, true), (3, true), (4, true), (5, true), (6, true), (7, true), (8, true), (9, true), (10, true), (11, true), (12, true), (13, true), (14, true), (15, true), (16, true), (17, true), (18, true), (19, true), (20, true), (21, true), (22, true), (23, true), (24, true), (25, true)] (by kernel_rfl) (by kernel_rfl) (by kernel_rfl) (by kernel_rfl) ⟨cell_of_row _ _ 0 _ _ _ (VD.K.get 0 rfl), cell_of_row _ _ 1 _ _ _ (VD.K.get 1 rfl), hF1.out _ _ VD.lf⟩ ?_
                    simp only [List.map_cons, List.map_nil, List.getElem?_toArray, List.getElem?_cons_zero, List.getElem?_cons_succ]
                    repeat (first | (refine Plan.take ?_ (by rfl) ?_ ?_; rotate_left; (· rintro w9 ⟨u0, u1, u2⟩; go_simp; (try rw [if_neg (by omega)]); all_goals (with_reducible rfl)); simp only [Act.put, List.setIfInBounds_toArray, List.set_cons_zero, List.set_cons_succ]) | (refine Plan.pass (by rfl) ?_; simp only [Act.put, List.setIfInBounds_toArray, List.set_cons_zero, List.set_cons_succ]))
                    refine Plan.ends ?_
                    go_wp2_with fail
                    go_meet
                    exact ⟨_, rfl, rfl, Lib.hid ⟨fun _ => hres.out, fun _ => rfl⟩⟩
                  · have hres := Lib.hid (fun h => h4 (HC.out.1 h).2.2)
                    have d4 : ((A4 : Int) != 0) = true := by simpa using h4
                    subst h1 h2
                    refine Plan.start (fun W => W.cell? ⟨w.heap.size, 0, none⟩ = some (.int .i64 (D : Int)) ∧ W.cell? ⟨g, 1, none⟩ = some (.slice (some y) on fc) ∧ W.cell? (y.add i) = some (.int .i64 (F1 : Int))) [(0, true), (1, true), (2, true), (3, true), (4, true), (5, true), (6, true), (7, true), (8, true), (9, true), (10, true), (11, true), (12, true), (13, true), (14, true), (15, true), (16, true), (17, true), (18, true), (19, true), (20, true), (21, true), (22, true), (23, true), (24, true), (25, true)] (by kernel_rfl) (by kernel_rfl) (by kernel_rfl) (by kernel_rfl) ⟨cell_of_row _ _ 0 _ _ _ (VD.K.get 0 rfl), cell_of_row _ _ 1 _ _ _ (VD.K.get 1 rfl), hF1.out _ _ VD.lf⟩ ?_
                    simp only [List.map_cons, List.map_nil, List.getElem?_toArray, List.getElem?_cons_zero, List.getElem?_cons_succ]
                    repeat (first | (refine Plan.take ?_ (by rfl) ?_ ?_; rotate_left; (· rintro w9 ⟨u0, u1, u2⟩; go_simp; (try rw [if_neg (by omega)]); all_goals (with_reducible rfl)); simp only [Act.put, List.setIfInBounds_toArray, List.set_cons_zero, List.set_cons_succ]) | (refine Plan.pass (by rfl) ?_; simp only [Act.put, List.setIfInBounds_toArray, List.set_cons_zero, List.set_cons_succ]))
                    refine Plan.ends ?_
                    go_wp2_with fail
                    go_meet
                    exact ⟨_, rfl, rfl, Lib.hid ⟨fun h => (by cases h), fun h => (hres.out h).elim⟩⟩
                · have hres := Lib.hid (fun h => h2 (HC.out.1 h).2.1)
                  have d2 : ((A2 : Int) != 0) = true := by simpa using h2
                  subst h1
                  refine Plan.start (fun W => W.cell? ⟨w.heap.size, 0, none⟩ = some (.int .i64 (D : Int)) ∧ W.cell? ⟨g, 1, none⟩ = some (.slice (some y) on fc) ∧ W.cell? (y.add i) = some (.int .i64 (F1 : Int))) [(0, true), (1, true), (2, true), (3, true), (4, true), (5, true), (6, true), (7, true), (8, true), (9, true), (10, true), (11, true), (12, true), (13, true), (14, true), (15, true), (16, true), (17, true), (18, true), (19, true), (20, true), (21, true), (22, true), (23, true), (24, true), (25, true)] (by kernel_rfl) (by kernel_rfl) (by kernel_rfl) (by kernel_rfl) ⟨cell_of_row _ _ 0 _ _ _ (VD.K.get 0 rfl), cell_of_row _ _ 1 _ _ _ (VD.K.get 1 rfl), hF1.out _ _ VD.lf⟩ ?_
                  simp only [List.map_cons, List.map_nil, List.getElem?_toArray, List.getElem?_cons_zero, List.getElem?_cons_succ]
                  repeat (first | (refine Plan.take ?_ (by rfl) ?_ ?_; rotate_left; (· rintro w9 ⟨u0, u1, u2⟩; go_simp; (try rw [if_neg (by omega)]); all_goals (with_reducible rfl)); simp only [Act.put, List.setIfInBounds_toArray, List.set_cons_zero, List.set_cons_succ]) | (refine Plan.pass (by rfl) ?_; simp only [Act.put, List.setIfInBounds_toArray, List.set_cons_zero, List.set_cons_succ]))
                  refine Plan.ends ?_
                  go_wp2_with fail
                  go_meet
                  exact ⟨_, rfl, rfl, Lib.hid ⟨fun h => (by cases h), fun h => (hres.out h).elim⟩⟩
              · have hres := Lib.hid (fun h => h1 (HC.out.1 h).1)
                have d1 : ((A1 : Int) != 0) = true := by simpa using h1
                refine Plan.start (fun W => W.cell? ⟨w.heap.size, 0, none⟩ = some (.int .i64 (D : Int)) ∧ W.cell? ⟨g, 1, none⟩ = some (.slice (some y) on fc) ∧ W.cell? (y.add i) = some (.int .i64 (F1 : Int))) [(0, true), (1, true), (2, true), (3, true), (4, true), (5, true), (6, true), (7, true), (8, true), (9, true), (10, true), (11, true), (12, true), (13, true), (14, true), (15, true), (16, true), (17, true), (18, true), (19, true), (20, true), (21, true), (22, true), (23, true), (24, true), (25, true)] (by kernel_rfl) (by kernel_rfl) (by kernel_rfl) (by kernel_rfl) ⟨cell_of_row _ _ 0 _ _ _ (VD.K.get 0 rfl), cell_of_row _ _ 1 _ _ _ (VD.K.get 1 rfl), hF1.out _ _ VD.lf⟩ ?_
                simp only [List.map_cons, List.map_nil, List.getElem?_toArray, List.getElem?_cons_zero, List.getElem?_cons_succ]
                repeat (first | (refine Plan.take ?_ (by rfl) ?_ ?_; rotate_left; (· rintro w9 ⟨u0, u1, u2⟩; go_simp; (try rw [if_neg (by omega)]); all_goals (with_reducible rfl)); simp only [Act.put, List.setIfInBounds_toArray, List.set_cons_zero, List.set_cons_succ]) | (refine Plan.pass (by rfl) ?_; simp only [Act.put, List.setIfInBounds_toArray, List.set_cons_zero, List.set_cons_succ]))
                refine Plan.ends ?_
                go_wp2_with fail
                go_meet
                exact ⟨_, rfl, rfl, Lib.hid ⟨fun h => (by cases h), fun h => (hres.out h).elim⟩⟩
            case rest =>
              obtain ⟨b, rfl, rfl, hb⟩ := hcut
              clear hb1 hb2 hb3 hb4 HC
              cases b with
              | true =>
                go_wp2_with fail
                go_roundw
                case rel => exact ⟨i + 1, ea2, en2, ec2, Sn2, El2, by go_num, by omega, VD.skip hX (fun h => by cases hb.out.2 h)⟩
                case measure => simp [intOf]; omega
              | false =>
                have hc := Lib.hid (hb.out.1 rfl)
                clear hb
                have VS := VD
                clear VD
                have HNE := Lib.hid (fun W => refNext_any X v W)
                go_upto_region 14 with fail
                have VD := VS.drew
                refine Plan.start (fun W => W.cell? ⟨w.heap.size, 1, none⟩ = some (.string v) ∧ W.cell? ⟨g, 0, none⟩ = some (.slice (some x) on oc) ∧ EvAt W x i X) [(0, true), (1, true), (2, true), (3, true), (4, true), (5, true), (6, true), (7, true), (8, true), (9, false), (10, true), (11, true), (12, true), (13, true), (14, true)] (by kernel_rfl) (by kernel_rfl) (by kernel_rfl) (by kernel_rfl) ⟨cell_of_row _ _ 1 _ _ _ (VD.K.get 0 rfl), cell_of_row _ _ 0 _ _ _ (VD.K.get 1 rfl), hEV.out _ _ VD.lo⟩ ?_
                simp only [List.map_cons, List.map_nil, List.getElem?_toArray, List.getElem?_cons_zero, List.getElem?_cons_succ]
                repeat (first | (refine Plan.take ?_ (by rfl) ?_ ?_; rotate_left; (· rintro w9 ⟨u0, u1, u2, u3, u4, u5, u6, u7, u8, u9⟩; go_simp; (try rw [if_neg (by omega)]); all_goals (with_reducible rfl)); simp only [Act.put, List.setIfInBounds_toArray, List.set_cons_zero, List.set_cons_succ]) | (refine Plan.pass (by rfl) ?_; simp only [Act.put, List.setIfInBounds_toArray, List.set_cons_zero, List.set_cons_succ]))
                refine Plan.call (by rfl) 83 _ ?_ (HNE.out _) ?_
                · go_simp
                rintro r9 w3 ⟨u, hu, rfl, h9⟩
                have V3 := vst_on VD h9
                clear VS VD h9
                obtain ⟨hy1, hy2⟩ := next_fit hu
                replace hy1 := Lib.hid hy1
                replace hy2 := Lib.hid hy2
                clear hu
                generalize (!X.ret || decide ((ModMath.applyR [v] (cmdOf X)).err = X.err ∧ (ModMath.applyR [v] (cmdOf X)).data = X.res)) = ok at *
                refine ⟨_, rfl, ⟨cell_of_row _ _ 1 _ _ _ (V3.K.get 0 rfl), cell_of_row _ _ 0 _ _ _ (V3.K.get 1 rfl), hEV.out _ _ V3.lo⟩, ?_⟩
                simp only [Act.put, List.setIfInBounds_toArray, List.set_cons_zero, List.set_cons_succ]
                repeat (first | (refine Plan.take ?_ (by rfl) ?_ ?_; rotate_left; (· rintro w9 ⟨u0, u1, u2, u3, u4, u5, u6, u7, u8, u9⟩; go_simp; (try rw [if_neg (by omega)]); all_goals (with_reducible rfl)); simp only [Act.put, List.setIfInBounds_toArray, List.set_cons_zero, List.set_cons_succ]) | (refine Plan.pass (by rfl) ?_; simp only [Act.put, List.setIfInBounds_toArray, List.set_cons_zero, List.set_cons_succ]))
                refine Plan.ends ?_
                cases ok with
                | false =>
                  go_wp2_with fail
                  go_roundw
                  case rel => exact ⟨i + 1, ea2, en2, ec2, Sn2, El2, by go_num, by omega, V3.skip hX (fun _ => hy2.out rfl)⟩
                  case measure => simp [intOf]; omega
                | true =>
                  have hn := Lib.hid (hy1.out rfl)
                  clear hy1 hy2
                  have hg9 := hgr.out hc.out.1
                  have hu16 := (next_vals hn.out).2 h16
                  have huin := next_in hX hn.out hv
                  have hkn2 := Lib.hid (V3.st.known hkn hc.out.1)
                  rw [hP2.out] at hkn2
                  have hmD := hmDh.out
                  have kp := V3.K.keep_perm (F := F) perm3
                  have hcall := Lib.hid (IH.out (D ||| P2) (by omega) hg9.2 u w0 w3 F (xT w.heap.size D v :: T) ea2 en2 ec2 Sn2 El2 (V3.K.perm perm3) (V3.lo.keep kp) (V3.lf.keep kp) (V3.le.keep kp) V3.asc V3.inn huin hu16 V3.all0 hkn2.out)
                  have hD2 := Lib.hid (show D ||| 2 ^ i = D ||| P2 by rw [hP2.out])
                  generalize D ||| P2 = D2 at *
                  have hx0 := cell_of_row _ _ 0 _ _ _ (V3.K.get 0 rfl)
                  have h9u := hg9.2
                  clear kp hg9 hu16 hkn2 hmD
                  unfold VisPost at hcall
                  go_upto_if 114 with (first
                    | (go_at_call 52; ((with_reducible refine (hcall.out).mono ?_); rintro r9 w4 ⟨Sn3, ea3, en3, ec3, El3, K4, k4, l4, ⟨rfl, hp4, ha4, h04⟩ | ⟨h0, la, ln, lc, l, D', v', rfl, ll, hP4, hg4⟩⟩)))
                  · go_wp2_with fail
                    go_roundw
                    case rel => exact ⟨i + 1, ea3, en3, ec3, Sn3, El3, by go_num, by omega, V3.call hX hc.out hn.out huin K4 k4 l4 (by rw [hD2.out]; exact hp4) ha4 h04⟩
                    case measure => simp [intOf]; omega
                  · have hln : ln ≤ 1048576 := by
                      have h1 := path_len (n := on) (by omega) hP4 h9u
                      have h2 := ll.length
                      have h3 : 2 ^ on ≤ 2 ^ 20 := Nat.pow_le_pow_right (by decide) hon
                      have h4 : (2 : Nat) ^ 20 = 1048576 := by decide
                      omega
                    have kk := (V3.K.keep_perm (F := F) perm3).trans k4
                    obtain ⟨e0, e1, e2, e3, e4, e5, e6, e7⟩ := hEV.out _ _ (V3.lo.keep kk)
                    have hg4' := cell_of_row _ _ 0 _ _ _ (K4.get 0 rfl)
                    have KA : Env w0 (w4.alloc (.cells #[.int .i64 X.serial] 3)) (Env.lst IR (Env.slv w4.heap.size 1 1) 1 [X.serial] :: _) := K4.made (R := IR) X.serial 1 (by unfold maxLen; decide) rfl rfl
                    have kA : Keep w0 F w4 _ (w4.alloc (.cells #[.int .i64 X.serial] 3)) (Env.lst IR (Env.slv w4.heap.size 1 1) 1 [X.serial] :: _) := K4.keep_made (R := IR) X.serial 1 _
                    replace ll := ll.keep kA
                    go_wp2_with (first
                      | (refine KA.apps_listW irOk rfl (.tmp 123) (.tmp 124) rfl 0 rfl rfl rfl ll (by omega) (by show (1 + ln) * 8 ≤ _; omega) ?_; intro gA cA w5 K9 k9; simp only [List.set] at K9 k9; simp only [Act.put, List.setIfInBounds_toArray, List.set_cons_zero, List.set_cons_succ]))
                    go_ret2
                    have ks := (kA.trans (k9 F)).trans (K9.keep_sub (F := F) (T' := srT g (some x) on oc (some y) fc mb ea3 en3 ec3 :: seenT mb Sn3 :: T) (fun z hz => by rcases List.mem_cons.1 hz with rfl | hz; (· simp); rcases List.mem_cons.1 hz with rfl | hz; (· simp); simp [hz]))
                    exact vis_yes (K9.tail.perm perm3').tail ((V3.k0.trans kk).trans ks) (l4.keep ks) h0 ((K9.settle irOk 0 rfl).fewer (fun z hz => by rcases List.mem_cons.1 hz with rfl | hz; (· simp); rcases List.mem_cons.1 hz with rfl | hz; (· simp); simp [hz])) (.cons hX hc.out hn.out (by rw [hD2.out]; exact hP4)) hg4
          · obtain rfl : i = on := by omega
            have hiI : ¬ (i : Int) < (i : Int) := by omega
            have hfin := Lib.hid (vst_end VS hlen.symm)
            go_wp2_with fail
            go_ret2
            exact hfin.out
end Go.Proofs.YtnmhnjjehglcfaaGreat.Ents

/- The walks of the document's Block and Values: a search from its beginning. -/
namespace Go.Proofs.YtnmhnjjehglcfaaGreat.Ents
open Go.RowKit Plan HisMath LinMath Rws Env LayMath Bits
/-- what Block leaves -/
def BlkPost (v : ByteArray) (L : List Ev) (w : World) (r : Ending) (w' : World) : Prop :=
  ∃ (la : Option Addr) (ln lc : Nat) (l : List Int) (b : Bool), r = .returned (.tuple #[.slice la ln lc, .bool b]) ∧ TList IR w' (fun x => w.heap.size ≤ x) la ln lc l ∧ Below w.heap.size w w' ∧
    (b = true ↔ singleB v L = true ∧ ∃ o, linE [v] L o = 0) ∧ (b = true → linE [v] L l = 0) ∧ (b = false → l = [])
/-- what Values leaves -/
def ValPost (v : ByteArray) (L : List Ev) (w : World) (r : Ending) (w' : World) : Prop :=
  ∃ (a : Option Addr) (n c : Nat) (E : List ByteArray), r = .returned (.slice a n c) ∧ SList w' (fun x => w.heap.size ≤ x) a n c E ∧ Below w.heap.size w w' ∧ AscS E ∧ ∀ u, u ∈ E ↔ endV v L u
theorem search_env {w w' : World} {g mb : Nat} {oa fa : Option Addr} {on oc fc : Nat} (hg : w'.heap[g]? = some (.cells #[.slice oa on oc, .slice fa on fc, .map (some mb), .slice none 0 0] 98 (0, 0))) (hm : w'.heap[mb]? = some (.map #[] 0)) (hg0 : w.heap.size ≤ g) (hm0 : w.heap.size ≤ mb) (hb : Below w.heap.size w w') :
    Env w w' [srT g oa on oc fa fc mb none 0 0, seenT mb []] := by
  refine Env.of (fun x hx => ?_) ?_ hb
  · rcases List.mem_cons.1 hx with rfl | hx
    · exact ⟨hg0, hg⟩
    · obtain rfl := List.mem_singleton.1 hx
      exact seen_holds (StSeen.new hm) hm0
  · refine List.pairwise_cons.2 ⟨fun x hx => ?_, List.pairwise_singleton _ _⟩
    obtain rfl := List.mem_singleton.1 hx
    intro b h1 h2
    have e1 : b = g := h1
    have e2 : b = mb := h2
    subst e1
    subst e2
    rw [hg] at hm
    cases hm
theorem search_quiet {w w' : World} {F : Nat → Prop} {g mb : Nat} {oa fa : Option Addr} {on oc fc : Nat} {b : Nat} (hl : b < w'.heap.size) (h : w.heap.size ≤ b ∧ b ≠ g ∧ b ≠ mb) : Quiet w F w' [srT g oa on oc fa fc mb none 0 0, seenT mb []] b :=
  ⟨.inr h.1, hl, fun x hx e => by
    rcases List.mem_cons.1 hx with rfl | hx
    · exact h.2.1 e
    · obtain rfl := List.mem_singleton.1 hx
      exact h.2.2 e⟩
theorem search_call {w w' : World} {L : List Ev} {v : ByteArray} (all : Bool) {g mb : Nat} {oa fa : Option Addr} {on oc fc : Nat} (hs : singleB v L = true) (hg : w'.heap[g]? = some (.cells #[.slice oa on oc, .slice fa on fc, .map (some mb), .slice none 0 0] 98 (0, 0))) (hm : w'.heap[mb]? = some (.map #[] 0)) (hg0 : w.heap.size ≤ g) (hm0 : w.heap.size ≤ mb)
    (lo : VList w' (fun b => w.heap.size ≤ b ∧ b ≠ g ∧ b ≠ mb) oa on oc (opsE L L.length)) (lf : TList IR w' (fun b => w.heap.size ≤ b ∧ b ≠ g ∧ b ≠ mb) fa on fc (firstE L (opsE L L.length) on on)) (hb : Below w.heap.size w w') :
    Calls Tryz.prog 52 #[.pointer (some ⟨g, 0, none⟩), .agg #[.int .i64 0, .string v], .bool all] w' (VisPost L (opsE L L.length) w w' (fun _ => False) [] g mb on oc fc oa fa all 0 v none 0 0 [] []) := by
  obtain ⟨h1, _, h3⟩ := single_parts hs
  have h16 := (sizes_parts h1).2.2.2.2 v List.mem_cons_self
  have hon : on ≤ 20 := by rw [← lo.length]; exact h3
  have hp : 0 < 2 ^ on := Nat.pow_pos (by decide)
  exact refVisit_any L (opsE L L.length) g mb on oc fc oa fa all v hon (2 ^ on) 0 (by omega) hp v w w' (fun _ => False) [] none 0 0 [] [] (search_env hg hm hg0 hm0 hb) (lo.mono fun b hl h => search_quiet hl h) (lf.mono fun b hl h => search_quiet hl h) (TList.nil _ _) List.Pairwise.nil (fun u hu => by cases hu) List.mem_cons_self h16 (fun _ => rfl) (fun _ _ h => by cases h)
set_option maxHeartbeats 8000000 in
set_option maxRecDepth 20000 in
theorem refBlock_any (F : Nat → Prop) (v : ByteArray) (L : List Ev) (a : Option Addr) (n c : Nat) (w : World) (hl : VList w F a n c L) (hm : n ≤ 100000) :
    Calls Tryz.prog 19 #[.string v, .slice a n c] w (BlkPost v L w) := by
  have hlen := hl.length
  have HS := Lib.hid (fun W (h : Below w.heap.size w W) => refSingle_any _ v L a n c W (hl.same h) hm)
  cases hsg : singleB v L with
  | false =>
    rw [hsg] at HS
    go_enter Tryz.func19, Tryz.ntmps19
    go_wp2_with (first
      | (go_at_call 50; ((with_reducible refine (HS.out _ (Below.refl _ _)).mono ?_); rintro r9 w2 ⟨rfl, hb⟩)))
    go_ret2
    exact ⟨none, 0, 0, [], false, rfl, TList.nil _ _, hb, ⟨fun h => (by cases h), fun h => (by rw [hsg] at h; cases h.1)⟩, fun h => (by cases h), fun _ => rfl⟩
  | true =>
    have hsz := (single_parts hsg).1
    have hst := Lib.hid (fun W (h : Below w.heap.size w W) => refStart_any _ L a n c W (hl.same h) hm (by have := (single_parts hsg).2.2; rw [hlen] at this; omega))
    rw [hsg] at HS
    have HC := Lib.hid (fun W W' g mb oa fa on oc fc a1 a2 a3 a4 a5 a6 a7 => @search_call W W' L v false g mb oa fa on oc fc hsg a1 a2 a3 a4 a5 a6 a7)
    unfold VisPost at HC
    have hEL := Lib.hid (ends_lin hsz)
    have hPL := Lib.hid (fun u l D => @path_lin v u L l D hsz)
    have hsgh := Lib.hid hsg
    clear hsg hl hsz
    rw [hlen] at HC hEL hPL
    generalize opsE L n = O at *
    go_enter Tryz.func19, Tryz.ntmps19
    go_wp2_with (first
      | (go_at_call 50; ((with_reducible refine (HS.out _ (Below.refl _ _)).mono ?_); rintro r9 w2 ⟨rfl, hb⟩))
      | (go_at_call 51; ((with_reducible refine (hst.out _ hb).mono ?_); rintro r9 w3 ⟨g, mb, oa, fa, on, oc, fc, rfl, hg, hmm, hg0, hm0, lo, lf, hb3⟩; have hcc := Lib.hid (HC.out _ _ _ _ _ _ _ _ _ hg hmm hg0 hm0 lo lf hb3); clear hg hmm lo lf))
      | (go_at_call 52; ((with_reducible refine (hcc.out).mono ?_); rintro r9 w4 ⟨Sn3, ea3, en3, ec3, El3, K4, k4, l4, ⟨rfl, hp4, ha4, h04⟩ | ⟨h0, la, ln, lc, l, D', v', rfl, ll, hP4, hg4⟩⟩)))
    · go_ret2
      have h05 := h04 (by trivial)
      subst h05
      exact ⟨none, 0, 0, [], false, rfl, TList.nil _ _, hb.trans (K4.hb.mono hb.size), ⟨fun h => (by cases h), fun h => (by
        obtain ⟨u, hu⟩ := hEL.out.2 h.2
        cases hp4.all u hu)⟩, fun h => (by cases h), fun _ => rfl⟩
    · go_ret2
      have h5 := hPL.out v' l D' hP4 hg4
      exact ⟨la, ln, lc, l, true, rfl, ll.mono fun b _ h => (by have := hb.size; have := h.1.resolve_left id; omega), hb.trans (K4.hb.mono hb.size), ⟨fun _ => ⟨hsgh.out, l, h5⟩, fun _ => rfl⟩, fun _ => h5, fun h => (by cases h)⟩
set_option maxHeartbeats 8000000 in
set_option maxRecDepth 20000 in
theorem refValues_any (F : Nat → Prop) (v : ByteArray) (L : List Ev) (a : Option Addr) (n c : Nat) (w : World) (hl : VList w F a n c L) (hm : n ≤ 100000) :
    Calls Tryz.prog 23 #[.string v, .slice a n c] w (ValPost v L w) := by
  have hlen := hl.length
  have HS := Lib.hid (fun W (h : Below w.heap.size w W) => refSingle_any _ v L a n c W (hl.same h) hm)
  cases hsg : singleB v L with
  | false =>
    rw [hsg] at HS
    go_enter Tryz.func23, Tryz.ntmps23
    go_wp2_with (first
      | (go_at_call 50; ((with_reducible refine (HS.out _ (Below.refl _ _)).mono ?_); rintro r9 w2 ⟨rfl, hb⟩)))
    go_ret
    exact ⟨none, 0, 0, [], rfl, TList.nil _ _, hb, List.Pairwise.nil, fun u => ⟨fun h => (by cases h), fun h => (by have h1 := h.1; rw [hsg] at h1; cases h1)⟩⟩
  | true =>
    have hsz := (single_parts hsg).1
    have hst := Lib.hid (fun W (h : Below w.heap.size w W) => refStart_any _ L a n c W (hl.same h) hm (by have := (single_parts hsg).2.2; rw [hlen] at this; omega))
    rw [hsg] at HS
    have HC := Lib.hid (fun W W' g mb oa fa on oc fc a1 a2 a3 a4 a5 a6 a7 => @search_call W W' L v true g mb oa fa on oc fc hsg a1 a2 a3 a4 a5 a6 a7)
    unfold VisPost at HC
    have hsgh := Lib.hid (show ∀ u, endV v L u ↔ LinMath.Ends L (opsE L L.length) 0 v u from fun u => ⟨fun h => h.2, fun h => ⟨hsg, h⟩⟩)
    clear hsg hl hsz
    rw [hlen] at HC hsgh
    generalize opsE L n = O at *
    go_enter Tryz.func23, Tryz.ntmps23
    go_wp2_with (first
      | (go_at_call 50; ((with_reducible refine (HS.out _ (Below.refl _ _)).mono ?_); rintro r9 w2 ⟨rfl, hb⟩))
      | (go_at_call 51; ((with_reducible refine (hst.out _ hb).mono ?_); rintro r9 w3 ⟨g, mb, oa, fa, on, oc, fc, rfl, hg, hmm, hg0, hm0, lo, lf, hb3⟩; have hcc := Lib.hid (HC.out _ _ _ _ _ _ _ _ _ hg hmm hg0 hm0 lo lf hb3); clear hg hmm lo lf))
      | (go_at_call 52; ((with_reducible refine (hcc.out).mono ?_); rintro r9 w4 ⟨Sn3, ea3, en3, ec3, El3, K4, k4, l4, ⟨rfl, hp4, ha4, h04⟩ | ⟨h0, la, ln, lc, l, D', v', rfl, ll, hP4, hg4⟩⟩; all_goals (have hc3 := cell_of_row _ _ 3 _ _ _ (K4.get 0 rfl)))))
    · go_ret
      exact ⟨ea3, en3, ec3, El3, rfl, l4.mono fun b _ h => (by have := hb.size; have := h.1.resolve_left id; omega), hb.trans (K4.hb.mono hb.size), ha4, fun u => ((hsgh.out u).trans ⟨hp4.all u, fun h => (hp4.only u h).resolve_left (by simp)⟩).symm⟩
    · first | cases h0 | exact h0.elim
end Go.Proofs.YtnmhnjjehglcfaaGreat.Ents

/- The walk of the document's Can: whether a history has a linearization, block by block. -/
namespace Go.Proofs.YtnmhnjjehglcfaaGreat.LinMath
open HisMath ModMath
theorem can_next {B : List ByteArray} {L : List Ev} {j : Nat} {v : ByteArray} (hv : B[j]? = some v) {b x : Bool} (h : b = true ↔ ∀ i, i < j → blkOk B L i) (hx : x = true ↔ singleB v (aloneE L (j : Int)) = true ∧ ∃ o, linE [v] (aloneE L (j : Int)) o = 0) (hs : singleB v (aloneE L (j : Int)) = true) : (b && x) = true ↔ ∀ i, i < j + 1 → blkOk B L i := by
  rw [Bool.and_eq_true, h, hx]
  constructor
  · rintro ⟨h1, _, h2⟩ i hi u hu
    by_cases hij : i < j
    · exact h1 i hij u hu
    · obtain rfl : i = j := by omega
      rw [hv] at hu
      obtain rfl := Option.some.inj hu
      exact h2
  · intro h1
    exact ⟨fun i hi => h1 i (by omega), hs, h1 j (by omega) v hv⟩
theorem must_next {B : List ByteArray} {O : List Ev} {j : Nat} {y : Ev} (hy : O[j]? = some y) {P : Prop} {b b2 : Bool} (h : b = true ↔ P ∧ ∀ k x, k < j → O[k]? = some x → mustP x = true → errM B (cmdOf x) = 0)
    (h2 : b2 = true ↔ b = true ∧ (mustP y = true → errM B (cmdOf y) = 0)) : b2 = true ↔ P ∧ ∀ k x, k < j + 1 → O[k]? = some x → mustP x = true → errM B (cmdOf x) = 0 := by
  rw [h2, h]
  constructor
  · rintro ⟨⟨h1, h3⟩, h4⟩
    refine ⟨h1, fun k x hk hx hm => ?_⟩
    by_cases hkj : k < j
    · exact h3 k x hkj hx hm
    · obtain rfl : k = j := by omega
      rw [hy] at hx
      obtain rfl := Option.some.inj hx
      exact h4 hm
  · rintro ⟨h1, h3⟩
    exact ⟨⟨h1, fun k x hk => h3 k x (by omega)⟩, h3 j y (by omega) hy⟩
end Go.Proofs.YtnmhnjjehglcfaaGreat.LinMath
namespace Go.Proofs.YtnmhnjjehglcfaaGreat.Ents
open Go.RowKit Plan HisMath LinMath Rws Env LayMath CmdMath
/-- what Can leaves -/
def CanPost (B : List ByteArray) (L : List Ev) (w : World) (r : Ending) (w' : World) : Prop := ∃ x y : Bool, r = .returned (.tuple #[.bool x, .bool y]) ∧ (x = true ↔ CanP B L) ∧ Below w.heap.size w w'
theorem can_post {B : List ByteArray} {L : List Ev} {w w' : World} {x y : Bool} (h : x = true ↔ CanP B L) (hb : Below w.heap.size w w') : CanPost B L w (.returned (.tuple #[.bool x, .bool y])) w' := ⟨x, y, rfl, h, hb⟩
set_option maxHeartbeats 8000000 in
set_option maxRecDepth 20000 in
theorem refCan_any (F G : Nat → Prop) (B : List ByteArray) (L : List Ev) (a b : Option Addr) (n c m d : Nat) (w : World) (hl : SList w F a n c B) (hk : VList w G b m d L) (hm : m ≤ 100000) :
    Calls Tryz.prog 24 #[.slice a n c, .slice b m d] w (CanPost B L w) := by
  have hlen := hl.length
  have hlm := hk.length
  obtain ⟨hcp, hcm⟩ := hl.cap
  unfold maxLen at hcm
  have HS := Lib.hid (refSizes_any F G B L a b n c m d w hl hk)
  have HB := Lib.hid (fun W (h : Below w.heap.size w W) i (hi : i < n) => str_at (hl.same h) i hi)
  have HAL := Lib.hid (fun W (h : Below w.heap.size w W) i => refAlone_any _ L b m d i W (hk.same h) hm)
  have HOW := Lib.hid (fun W (h : Below w.heap.size w W) => refOps_any _ L b m d W (hk.same h) hm)
  unfold VPost at HAL HOW
  have hal := Lib.hid (fun i => Nat.le_trans (alone_len L i) (show L.length ≤ 100000 by omega))
  have HOA := Lib.hid (fun W F x k c i (h : VList W F x k c (aloneE L i)) (hk : k ≤ 100000) => refOps_any F (aloneE L i) x k c W h hk)
  have HBK := Lib.hid (fun W F v x k c i (h : VList W F x k c (aloneE L i)) (hk : k ≤ 100000) => refBlock_any F v (aloneE L i) x k c W h hk)
  unfold VPost at HOA
  unfold BlkPost at HBK
  by_cases hs : sizesE B L = 0
  · have HSG := Lib.hid (fun i v => @alone_single B L hs i v)
    have HSP := Lib.hid (can_split hs)
    have hsh := Lib.hid hs
    have hno : ¬ (sizesE B L != 0) = true := by simp [hs]
    rw [hs] at HS
    clear hl hk hs hno
    have hb := Below.refl w.heap.size w
    go_enter Tryz.func24, Tryz.ntmps24
    go_wp2_with (first
      | (go_at_call 40; ((with_reducible refine (HS.out).mono ?_); rintro r9 w1 ⟨rfl, h9⟩; replace hb := h9; clear h9)))
    go_loopw [6, 7] (fun f x wr => ∃ (j : Nat) (ok : Bool), x = .int .i64 (j : Int) ∧ j ≤ n ∧ f = .bool ok ∧ Below w.heap.size w wr ∧ RowKit.Hid (ok = true ↔ ∀ i, i < j → blkOk B L i) ∧ RowKit.Hid (∀ i : Nat, i < j → (opsE (aloneE L (i : Int)) (aloneE L (i : Int)).length).length ≤ 20)) (fun _ x _ => n - (intOf x).toNat)
    case atStart => exact ⟨0, true, rfl, by omega, rfl, hb, Lib.hid ⟨fun _ i hi => absurd hi (Nat.not_lt_zero _), fun _ => rfl⟩, Lib.hid (fun i hi => absurd hi (Nat.not_lt_zero _))⟩
    case round =>
      clear hb
      obtain ⟨j, ok, rfl, hj, rfl, hb, hok, hsm⟩ := hrel
      by_cases hlt : j < n
      · obtain ⟨x, v, rfl, hv, hat⟩ := HB.out wr hb j hlt
        have hjI : (j : Int) < (n : Int) := by omega
        have hjc : j ≤ c := by omega
        have hHX := Lib.hid (fun W (h : Below w.heap.size w W) => (show W.cell? (x.add j) = some (.string v) from by
          obtain ⟨x', v', h1, h2, h3⟩ := HB.out W h j hlt
          obtain rfl := Option.some.inj h1
          rw [hv] at h2
          obtain rfl := Option.some.inj h2
          exact h3))
        clear hat
        have hall := hal.out (j : Int)
        by_cases h20 : (opsE (aloneE L (j : Int)) (aloneE L (j : Int)).length).length ≤ 20
        · have hsg := HSG.out j v hv h20
          have HN := Lib.hid (fun b2 (h : b2 = true ↔ _) => can_next hv hok.out h hsg)
          have HN2 := Lib.hid (show ∀ i : Nat, i < j + 1 → (opsE (aloneE L (i : Int)) (aloneE L (i : Int)).length).length ≤ 20 from fun i hi => by
            by_cases hij : i < j
            · exact hsm.out i hij
            · obtain rfl : i = j := by omega
              exact h20)
          have HA1 := Lib.hid (fun W h => HAL.out W h (j : Int))
          have HO1 := Lib.hid (fun W F x k c h hk => HOA.out W F x k c (j : Int) h hk)
          have HB1 := Lib.hid (fun W F x k c h hk => HBK.out W F v x k c (j : Int) h hk)
          clear hsg hok hsm hv
          generalize aloneE L (j : Int) = A at *
          have h20' : ¬ (20 < (((opsE A A.length).length : Nat) : Int)) := by omega
          cases ok with
          | true =>
            go_wp2_with (first
              | (go_at_call 57; ((with_reducible refine (HA1.out _ hb).mono ?_); rintro r9 w2 ⟨xa, xn, xc, rfl, lx, h9⟩; replace hb := hb.trans (h9.mono hb.size); clear h9; have hxl := lx.length; have hxn : xn ≤ 100000 := by omega))
              | (go_at_call 41; ((with_reducible refine (HO1.out _ _ _ _ _ lx hxn).mono ?_); rintro r9 w3 ⟨oa, on, oc, rfl, lo, h9⟩; replace lx := lx.same h9; replace hb := hb.trans (h9.mono hb.size); clear h9; have hol := lo.length; rw [← hxl] at hol; have hon : ¬ (20 < (on : Int)) := (by omega); have hcell := hHX.out _ hb; clear lo))
              | (go_at_call 19; ((with_reducible refine (HB1.out _ _ _ _ _ lx hxn).mono ?_); rintro r9 w4 ⟨la, ln, lc, l, b2, rfl, -, h9, hb2, -, -⟩; replace hb := hb.trans (h9.mono hb.size); clear h9; have HN3 := Lib.hid (HN.out b2 hb2); rw [Bool.true_and] at HN3; clear hb2)))
            go_roundw
            case rel => exact ⟨j + 1, b2, by go_num, by omega, rfl, hb, HN3, HN2⟩
            case measure => simp [intOf]; omega
          | false =>
            go_wp2_with (first
              | (go_at_call 57; ((with_reducible refine (HA1.out _ hb).mono ?_); rintro r9 w2 ⟨xa, xn, xc, rfl, lx, h9⟩; replace hb := hb.trans (h9.mono hb.size); clear h9; have hxl := lx.length; have hxn : xn ≤ 100000 := by omega))
              | (go_at_call 41; ((with_reducible refine (HO1.out _ _ _ _ _ lx hxn).mono ?_); rintro r9 w3 ⟨oa, on, oc, rfl, lo, h9⟩; replace lx := lx.same h9; replace hb := hb.trans (h9.mono hb.size); clear h9; have hol := lo.length; rw [← hxl] at hol; have hon : ¬ (20 < (on : Int)) := (by omega); have hcell := hHX.out _ hb; clear lo))
              | (go_at_call 19; ((with_reducible refine (HB1.out _ _ _ _ _ lx hxn).mono ?_); rintro r9 w4 ⟨la, ln, lc, l, b2, rfl, -, h9, hb2, -, -⟩; replace hb := hb.trans (h9.mono hb.size); clear h9; have HN3 := Lib.hid (HN.out b2 hb2); rw [Bool.false_and] at HN3; clear hb2)))
            go_roundw
            case rel => exact ⟨j + 1, false, by go_num, by omega, rfl, hb, HN3, HN2⟩
            case measure => simp [intOf]; omega
        · have hout := Lib.hid (fun h : CanP B L => h20 (h.2.1 j (by omega)))
          have HA1 := Lib.hid (fun W h => HAL.out W h (j : Int))
          have HO1 := Lib.hid (fun W F x k c h hk => HOA.out W F x k c (j : Int) h hk)
          clear hok hsm hv
          generalize aloneE L (j : Int) = A at *
          go_wp2_with (first
            | (go_at_call 57; ((with_reducible refine (HA1.out _ hb).mono ?_); rintro r9 w2 ⟨xa, xn, xc, rfl, lx, h9⟩; replace hb := hb.trans (h9.mono hb.size); clear h9; have hxl := lx.length; have hxn : xn ≤ 100000 := by omega))
            | (go_at_call 41; ((with_reducible refine (HO1.out _ _ _ _ _ lx hxn).mono ?_); rintro r9 w3 ⟨oa, on, oc, rfl, lo, h9⟩; replace hb := hb.trans (h9.mono hb.size); clear h9; have hol := lo.length; rw [← hxl] at hol; have hon : (20 < (on : Int)) := (by omega); clear lo lx)))
          go_ret2
          exact can_post ⟨fun h => (by cases h), fun h => (hout.out h).elim⟩ hb
      · obtain rfl : n = j := by omega
        have hjI : ¬ (n : Int) < (n : Int) := by omega
        go_wp2_with (first
          | (go_at_call 41; ((with_reducible refine (HOW.out _ hb).mono ?_); rintro r9 w3 ⟨oa, on, oc, rfl, lo, h9⟩)))
        have hol := lo.length
        obtain ⟨hocp, hocm⟩ := lo.cap
        unfold maxLen at hocm
        have hbh := Lib.hid (hb.trans (h9.mono hb.size))
        clear h9 hb
        have hb2 := Below.refl w3.heap.size w3
        have HAT := Lib.hid (fun W (h : Below w3.heap.size w3 W) i (hi : i < on) => ev_at (lo.same h) i hi)
        have HFIN := Lib.hid (show (ok = true ∧ ∀ k x, k < on → (opsE L m)[k]? = some x → mustP x = true → ModMath.errM B (cmdOf x) = 0) ↔ CanP B L from by
          unfold CanP
          rw [HSP.out, hok.out, hlen, hlm]
          constructor
          · rintro ⟨h1, h2⟩
            refine ⟨hsh.out, fun i hi => hsm.out i (by omega), h1, fun y hy hm => ?_⟩
            obtain ⟨k, hk⟩ := List.mem_iff_getElem?.1 hy
            exact h2 k y (by rw [← hol]; exact (List.getElem?_eq_some_iff.1 hk).1) hk hm
          · rintro ⟨_, _, h1, h2⟩
            exact ⟨h1, fun k x _ hx hm => h2 x (List.mem_of_getElem? hx) hm⟩)
        clear hok hsm lo HOW HAL HOA HBK HSP HSG
        generalize opsE L m = O at *
        go_loopw [6, 12] (fun f x wr => ∃ (j : Nat) (ok2 : Bool), x = .int .i64 (j : Int) ∧ j ≤ on ∧ f = .bool ok2 ∧ Below w3.heap.size w3 wr ∧ RowKit.Hid (ok2 = true ↔ ok = true ∧ ∀ k x, k < j → O[k]? = some x → mustP x = true → ModMath.errM B (cmdOf x) = 0)) (fun _ x _ => on - (intOf x).toNat)
        case atStart => exact ⟨0, ok, rfl, by omega, rfl, hb2, Lib.hid ⟨fun h => ⟨h, fun k _ hk => absurd hk (Nat.not_lt_zero _)⟩, fun h => h.1⟩⟩
        case round =>
          clear hb2
          obtain ⟨j, ok2, rfl, hj, rfl, hb2, hq⟩ := hrel
          by_cases hlt : j < on
          · obtain ⟨x, y, rfl, hy, c0, c1, c2, c3, c4, c5, c6, c7⟩ := HAT.out wr hb2 j hlt
            have hjI : (j : Int) < (on : Int) := by omega
            have hjc : j ≤ oc := by omega
            have HN := Lib.hid (fun b2 h2 => @must_next B O j y hy (ok = true) ok2 b2 hq.out h2)
            obtain ⟨yr, yq, ys, yk, yb, yd, ye, yx⟩ := y
            have HCK := Lib.hid (fun W => refCheck_any 0 0 (n : Int) 0 0 0 yk yb yd W)
            unfold confV at HCK
            have hE : ModMath.errM B (cmdOf ⟨yr, yq, ys, yk, yb, yd, ye, yx⟩) = checkC n yk yb yd.size := by unfold ModMath.errM cmdOf; rw [hlen]
            rw [hE] at HN
            clear hq hy hE
            simp only at c0 c1 c2 c3 c4 c5 c6 c7
            generalize checkC n yk yb yd.size = E at *
            cases yr with
            | false =>
              have HN3 := Lib.hid (HN.out ok2 ⟨fun h => ⟨h, fun h2 => (by simp [mustP] at h2)⟩, fun h => h.1⟩)
              go_wp2_with (first
                | (go_at_call 58; ((with_reducible refine (HCK.out _).mono ?_); rintro r9 w4 ⟨rfl, h9⟩; replace hb2 := hb2.trans (h9.mono hb2.size); clear h9)))
              go_roundw
              case rel => exact ⟨j + 1, ok2, by go_num, by omega, rfl, hb2, HN3⟩
              case measure => simp [intOf]; omega
            | true =>
              by_cases he : ye = 0
              · subst he
                by_cases hE : E = 0
                · subst hE
                  have HN3 := Lib.hid (HN.out ok2 ⟨fun h => ⟨h, fun _ => rfl⟩, fun h => h.1⟩)
                  go_wp2_with (first
                    | (go_at_call 58; ((with_reducible refine (HCK.out _).mono ?_); rintro r9 w4 ⟨rfl, h9⟩; replace hb2 := hb2.trans (h9.mono hb2.size); clear h9)))
                  go_roundw
                  case rel => exact ⟨j + 1, ok2, by go_num, by omega, rfl, hb2, HN3⟩
                  case measure => simp [intOf]; omega
                · have dE : (E != 0) = true := by simpa using hE
                  have HN3 := Lib.hid (HN.out false ⟨fun h => (by cases h), fun h => absurd (h.2 (by simp [mustP])) hE⟩)
                  clear hE
                  go_wp2_with (first
                    | (go_at_call 58; ((with_reducible refine (HCK.out _).mono ?_); rintro r9 w4 ⟨rfl, h9⟩; replace hb2 := hb2.trans (h9.mono hb2.size); clear h9)))
                  go_roundw
                  case rel => exact ⟨j + 1, false, by go_num, by omega, rfl, hb2, HN3⟩
                  case measure => simp [intOf]; omega
              · have de : (ye == 0) = false := by simpa using he
                have HN3 := Lib.hid (HN.out ok2 ⟨fun h => ⟨h, fun h2 => absurd (by simpa [mustP] using h2) he⟩, fun h => h.1⟩)
                go_wp2_with (first
                  | (go_at_call 58; ((with_reducible refine (HCK.out _).mono ?_); rintro r9 w4 ⟨rfl, h9⟩; replace hb2 := hb2.trans (h9.mono hb2.size); clear h9)))
                go_roundw
                case rel => exact ⟨j + 1, ok2, by go_num, by omega, rfl, hb2, HN3⟩
                case measure => simp [intOf]; omega
          · obtain rfl : j = on := by omega
            have hjI : ¬ (j : Int) < (j : Int) := by omega
            have hfin := Lib.hid (hq.out.trans HFIN.out)
            have hb9 := Lib.hid (hbh.out.trans (hb2.mono hbh.out.size))
            go_wp2_with fail
            go_ret2
            exact can_post hfin.out hb9.out
        
  · have hE2 : (sizesE B L != 0) = true := by simpa using hs
    have hno := Lib.hid (show ¬ CanP B L from fun h => hs h.1)
    generalize sizesE B L = E at *
    clear hs
    go_enter Tryz.func24, Tryz.ntmps24
    go_wp2_with (first
      | (go_at_call 40; ((with_reducible refine (HS.out).mono ?_); rintro r9 w1 ⟨rfl, hb⟩)))
    go_ret2
    exact can_post ⟨fun h => (by cases h), fun h => (hno.out h).elim⟩ hb
end Go.Proofs.YtnmhnjjehglcfaaGreat.Ents
