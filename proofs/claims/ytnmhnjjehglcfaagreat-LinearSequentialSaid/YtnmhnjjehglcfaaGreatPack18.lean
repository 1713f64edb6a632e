/- Texts that belong together, part 18. -/
import Derived.Test.YtnmhnjjehglcfaaGreatPack17
import Derived.Laws.IdiomRangeMap
import Derived.Maps.RangeRun
import Derived.Deep.Cut
import Derived.Deep.DeepCutAuto

/- A map from numbers to values out of which entries are deleted, and over which a loop ranges: what it holds, and its stamps. -/
namespace Go.Proofs.YtnmhnjjehglcfaaGreat.Ents
open Go.RowKit Plan Rws Env
open MapKept (IsKey findNow_spec run_checkKey run_findKey run_setObj_map)
/-- without one key -/
def dropF (f : Int → Option Value) (z : Int) : Int → Option Value := fun y => if y = z then none else f y
theorem imap_drop {mt et : TypeId} (hu : Tryz.prog.underlying mt = some (.map 3 et)) {W : World} {B : Nat} {f : Int → Option Value} (h : IMap W B f) (z : Int) :
    ∃ W', (∀ ty : TypeId, (Builtin.delete_ #[mt, 3] ty #[.map (some B), .int .i64 z]).run Tryz.prog W = .ok (.tuple #[]) W') ∧ IMap W' B (dropF f z) ∧ W.grownBy W' (some B) := by
  obtain ⟨es, ck, hb, hnd, hk, hs⟩ := h
  have hkey : IsKey (.int .i64) (.int .i64 z) := rfl
  have hall : ∀ x ∈ es.toList, IsKey (.int .i64) x.key := fun x hx => by obtain ⟨y, hy, _⟩ := hk x hx; rw [hy]; rfl
  have hBlt := (Array.getElem?_eq_some_iff.1 hb).1
  rcases findNow_spec hkey es.toList 0 hall with ⟨h1, h2⟩ | ⟨j, e, h1, h2, h3⟩
  · refine ⟨W.putObj B (.map es ck), ?_, ⟨_, _, World.putObj_heap_same hBlt, hnd, ?_, ?_⟩, grownBy_putObj' W B _⟩
    · intro ty
      simp [Builtin.delete_, run_underlying hu, MapKept.run_getObj_map hb, run_checkKey Tryz.underlying3 hkey, run_findKey Tryz.underlying3 h1, run_setObj_map _ hb, Result.andThen, World.putObj]
    · intro x hx
      obtain ⟨y, hy, hv⟩ := hk x hx
      have hne : y ≠ z := fun e => h2 x hx (by rw [hy, e])
      exact ⟨y, hy, by simp [dropF, hne, hv]⟩
    · intro y v hy
      by_cases hyz : y = z
      · simp [dropF, hyz] at hy
      · simp only [dropF, if_neg hyz] at hy
        exact hs y v hy
  · have hjl : j < es.toList.length := (List.getElem?_eq_some_iff.1 h2).1
    have hjs : j < es.size := by simpa using hjl
    have htl : (es.eraseIdxIfInBounds j).toList = es.toList.eraseIdx j := by
      unfold Array.eraseIdxIfInBounds
      rw [dif_pos hjs, Array.toList_eraseIdx]
    have hsub : (es.toList.eraseIdx j).Sublist es.toList := List.eraseIdx_sublist _ _
    refine ⟨W.putObj B (.map (es.eraseIdxIfInBounds j) ck), ?_, ⟨_, _, World.putObj_heap_same hBlt, ?_, ?_, ?_⟩, grownBy_putObj' W B _⟩
    · intro ty
      simp [Builtin.delete_, run_underlying hu, MapKept.run_getObj_map hb, run_checkKey Tryz.underlying3 hkey, run_findKey Tryz.underlying3 h1, run_setObj_map _ hb, Result.andThen, World.putObj]
    · rw [htl]
      exact hnd.sublist (hsub.map _)
    · intro x hx
      rw [htl] at hx
      obtain ⟨i, hij, hi⟩ := List.mem_eraseIdx_iff_getElem?.1 hx
      obtain ⟨y, hy, hv⟩ := hk x (List.mem_of_getElem? hi)
      have hyz : y ≠ z := fun e9 => by
        have hil : i < (es.toList.map (·.key)).length := by rw [List.length_map]; exact (List.getElem?_eq_some_iff.1 hi).1
        have hjl' : j < (es.toList.map (·.key)).length := by rw [List.length_map]; exact hjl
        have e1 : (es.toList.map (·.key))[i]? = some (.int .i64 z) := by rw [List.getElem?_map, hi, Option.map_some, hy, e9]
        have e2 : (es.toList.map (·.key))[j]? = some (.int .i64 z) := by rw [List.getElem?_map, h2, Option.map_some, h3]
        exact hij ((List.getElem_inj (h₀ := hil) (h₁ := hjl') hnd).1 (by rw [(List.getElem_eq_iff hil).2 e1, (List.getElem_eq_iff hjl').2 e2]))
      exact ⟨y, hy, by simp [dropF, hyz, hv]⟩
    · intro y v hy
      by_cases hyz : y = z
      · simp [dropF, hyz] at hy
      · simp only [dropF, if_neg hyz] at hy
        obtain ⟨x, hx, hk'⟩ := hs y v hy
        obtain ⟨i, hi⟩ := List.mem_iff_getElem?.1 hx
        have hij : i ≠ j := fun e9 => by
          subst e9
          rw [h2] at hi
          obtain rfl := Option.some.inj hi
          rw [h3] at hk'
          cases hk'
          exact hyz rfl
        exact ⟨x, by rw [htl]; exact List.mem_eraseIdx_iff_getElem?.2 ⟨i, hij, hi⟩, hk'⟩
/-- what a map holds, and that its stamps are right -/
def SMap (W : World) (B : Nat) (f : Int → Option Value) : Prop := IMap W B f ∧ ∃ es ck, W.heap[B]? = some (.map es ck) ∧ MapKept.Stamped es ck
theorem SMap.new {W : World} {B : Nat} (h : W.heap[B]? = some (.map #[] 0)) : SMap W B (fun _ => none) :=
  ⟨IMap.new h, _, _, h, by simp [MapKept.Stamped]⟩
theorem SMap.on {W W' : World} {B : Nat} {f : Int → Option Value} (h : SMap W B f) (hb : W'.heap[B]? = W.heap[B]?) : SMap W' B f := by
  obtain ⟨h1, es, ck, h2, h3⟩ := h
  exact ⟨h1.on hb, es, ck, hb.trans h2, h3⟩
theorem SMap.keys {W : World} {B : Nat} {f : Int → Option Value} (h : IMap W B f) {es : Array MapEntry} {ck : Nat} (hb : W.heap[B]? = some (.map es ck)) : ∀ x ∈ es.toList, IsKey (.int .i64) x.key := by
  obtain ⟨es', ck', hb', _, hk, _⟩ := h
  rw [hb] at hb'
  cases hb'
  intro x hx
  obtain ⟨y, hy, _⟩ := hk x hx
  rw [hy]; rfl
theorem smap_put {mt et : TypeId} (hu : Tryz.prog.underlying mt = some (.map 3 et)) {W : World} {B : Nat} {f : Int → Option Value} (h : SMap W B f) (z : Int) (v : Value) :
    ∃ W', (Instr.mapUpdate mt (.map (some B)) (.int .i64 z) v).run Tryz.prog W = .ok () W' ∧ SMap W' B (putF f z v) ∧ W.grownBy W' (some B) := by
  obtain ⟨h1, es, ck, h2, h3⟩ := h
  obtain ⟨W', hr, hi, hg⟩ := imap_put hu h1 z v
  have hkp := MapKept.mapUpdate_keeps hu Tryz.underlying3 h2 h3 (SMap.keys h1 h2) (show IsKey (.int .i64) (.int .i64 z) from rfl) hr
  obtain ⟨es', ck', q1, q2, _⟩ := hkp
  exact ⟨W', hr, ⟨hi, es', ck', q1, q2⟩, hg⟩
theorem smap_drop {mt et : TypeId} (hu : Tryz.prog.underlying mt = some (.map 3 et)) {W : World} {B : Nat} {f : Int → Option Value} (h : SMap W B f) (z : Int) :
    ∃ W', (∀ ty : TypeId, (Builtin.delete_ #[mt, 3] ty #[.map (some B), .int .i64 z]).run Tryz.prog W = .ok (.tuple #[]) W') ∧ SMap W' B (dropF f z) ∧ W.grownBy W' (some B) := by
  obtain ⟨h1, es, ck, h2, h3⟩ := h
  obtain ⟨W', hr, hi, hg⟩ := imap_drop hu h1 z
  have hkp := MapKept.delete_keeps hu Tryz.underlying3 h2 h3 (SMap.keys h1 h2) (show IsKey (.int .i64) (.int .i64 z) from rfl) (hr 0)
  obtain ⟨es', ck', q1, q2, _⟩ := hkp
  exact ⟨W', hr, ⟨hi, es', ck', q1, q2⟩, hg⟩
abbrev smapT (mb : Nat) (f : Int → Option Value) : Thing := .any (fun b => b = mb) (fun W => SMap W mb f)
theorem smap_holds {B mb : Nat} {W : World} {f : Int → Option Value} (h : SMap W mb f) (hb : B ≤ mb) : (smapT mb f).holds B W :=
  ⟨h, fun b e => by subst e; exact ⟨hb, h.1.lt⟩, fun _ _ h1 _ hs => h1.on (hs mb rfl)⟩
section
variable {w W : World} {T : List Thing} {mb : Nat} {f : Int → Option Value}
theorem env_sget (K : Env w W T) (i : Nat) (h : T[i]? = some (smapT mb f)) : SMap W mb f := (K.at' i h).1
theorem env_sput {mt et : TypeId} (hu : Tryz.prog.underlying mt = some (.map 3 et)) (K : Env w W T) (i : Nat) (h : T[i]? = some (smapT mb f)) (z : Int) (v : Value) :
    ∃ W', (Instr.mapUpdate mt (.map (some mb)) (.int .i64 z) v).run Tryz.prog W = .ok () W' ∧ Env w W' (T.set i (smapT mb (putF f z v))) ∧ ∀ F, Keep w F W T W' (T.set i (smapT mb (putF f z v))) := by
  obtain ⟨W', hr, hs', hg⟩ := smap_put hu (env_sget K i h) z v
  have hb : w.heap.size ≤ mb := (((K.at' i h).2.1) mb rfl).1
  have := K.change (y := smapT mb (putF f z v)) i h (Chg.grown hg rfl) (smap_holds hs' hb) (fun g e => .inl e)
  exact ⟨W', hr, this.1, this.2⟩
theorem env_sdrop {mt et : TypeId} (hu : Tryz.prog.underlying mt = some (.map 3 et)) (K : Env w W T) (i : Nat) (h : T[i]? = some (smapT mb f)) (z : Int) :
    ∃ W', (∀ ty : TypeId, (Builtin.delete_ #[mt, 3] ty #[.map (some mb), .int .i64 z]).run Tryz.prog W = .ok (.tuple #[]) W') ∧ Env w W' (T.set i (smapT mb (dropF f z))) ∧ ∀ F, Keep w F W T W' (T.set i (smapT mb (dropF f z))) := by
  obtain ⟨W', hr, hs', hg⟩ := smap_drop hu (env_sget K i h) z
  have hb : w.heap.size ≤ mb := (((K.at' i h).2.1) mb rfl).1
  have := K.change (y := smapT mb (dropF f z)) i h (Chg.grown hg rfl) (smap_holds hs' hb) (fun g e => .inl e)
  exact ⟨W', hr, this.1, this.2⟩
theorem env_snew (K : Env w W T) : Env w (W.alloc (.map #[] 0)) (smapT W.heap.size (fun _ => none) :: T) :=
  K.cons ((Below.refl _ _).alloc (Nat.le_refl _) _) (smap_holds (SMap.new (heap_alloc_new W _)) K.hb.size) (fun g hg => by have : g = W.heap.size := hg; omega)
/-- a map of known entries -/
abbrev rawT (mb : Nat) (es : Array MapEntry) (ck : Nat) : Thing := .any (fun b => b = mb) (fun W => W.heap[mb]? = some (.map es ck))
theorem env_rawget {es : Array MapEntry} {ck : Nat} (K : Env w W T) (i : Nat) (h : T[i]? = some (rawT mb es ck)) : W.heap[mb]? = some (.map es ck) := (K.at' i h).1
theorem env_raw (K : Env w W (smapT mb f :: T)) : ∃ es ck, MapKept.Stamped es ck ∧ (∀ e ∈ es.toList, ∃ z : Int, e.key = .int .i64 z ∧ f z = some e.val) ∧ (∀ (z : Int) (v : Value), f z = some v → ∃ e ∈ es.toList, e.key = .int .i64 z) ∧ Env w W (rawT mb es ck :: T) := by
  obtain ⟨⟨es, ck, h1, _, h3, h4⟩, es', ck', q1, q2⟩ := env_sget K 0 rfl
  rw [h1] at q1
  cases q1
  refine ⟨es, ck, q2, h3, h4, ⟨fun x hx => ?_, fun i j x y g hi hj hx hy => ?_, K.hb⟩⟩
  · rcases List.mem_cons.1 hx with rfl | hx
    · have h0 := K.at' 0 rfl
      exact ⟨h1, h0.2.1, fun W1 W2 hq _ hs => (hs mb rfl).trans hq⟩
    · exact K.hold x (List.mem_cons_of_mem _ hx)
  · have key : ∀ (i : Nat) x, (rawT mb es ck :: T)[i]? = some x → x.has g → ∃ y, (smapT mb f :: T)[i]? = some y ∧ y.has g := fun i x hi hx => by
      cases i with
      | zero => obtain rfl := Option.some.inj hi; exact ⟨_, rfl, hx⟩
      | succ i => exact ⟨x, hi, hx⟩
    obtain ⟨x', a1, a2⟩ := key i x hi hx
    obtain ⟨y', b1, b2⟩ := key j y hj hy
    exact K.nd i j x' y' g a1 b1 a2 b2
/-- the iterator has been written -/
theorem env_iter (K : Env w W T) (i : Nat) {r : Nat} {o o' : Obj} (h : T[i]? = some (.box r o)) {T' : List Thing} (hT : T' = T.set i (.box r o')) : Env w (ChangeMaps.setBlock W r o') T' := by
  subst hT
  have hg := K.get i h
  have hlt := e_lt hg
  have hgr : W.grownBy (ChangeMaps.setBlock W r o') (some r) := ⟨rfl, rfl, rfl, by simp [ChangeMaps.setBlock], fun k _ hk => by
    have : r ≠ k := fun e => hk (by rw [e])
    simp [ChangeMaps.setBlock, this]⟩
  exact K.set hgr i h (fun g e => by cases e; rfl) ⟨K.lo i h, by simp [ChangeMaps.setBlock, hlt]⟩ (fun g e => .inl e)
end
end Go.Proofs.YtnmhnjjehglcfaaGreat.Ents

/- Lists of strings, of commands and of results in memory. -/
namespace Go.Proofs.YtnmhnjjehglcfaaGreat.Ents
open Go.RowKit Plan ModMath CmdMath Rws
def SR : Row ByteArray := ⟨9, 22, 1, 16, .string ⟨#[]⟩, fun s => [.string s]⟩
theorem srOk : SR.Ok := ⟨fun _ => rfl, fun e u hu => by simp only [SR, List.mem_cons, List.not_mem_nil, or_false] at hu; subst hu; rfl, by decide, by kernel_rfl, rfl, Tryz.underlying22, by decide⟩
def CR : Row Cmd := ⟨51, 143, 3, 32, .agg #[.int .i64 0, .int .i64 0, .string ⟨#[]⟩], fun x => [.int .i64 x.kind, .int .i64 x.block, .string x.data]⟩
theorem crOk : CR.Ok := ⟨fun _ => rfl, fun e u hu => by simp only [CR, List.mem_cons, List.not_mem_nil, or_false] at hu; rcases hu with rfl | rfl | rfl <;> rfl, by decide, by kernel_rfl, rfl, Tryz.underlying143, by decide⟩
def OR : Row Res := ⟨53, 144, 2, 24, .agg #[.int .i64 0, .string ⟨#[]⟩], fun x => [.int .i64 x.err, .string x.data]⟩
theorem orOk : OR.Ok := ⟨fun _ => rfl, fun e u hu => by simp only [OR, List.mem_cons, List.not_mem_nil, or_false] at hu; rcases hu with rfl | rfl <;> rfl, by decide, by kernel_rfl, rfl, Tryz.underlying144, by decide⟩
abbrev SList := TList SR
abbrev CList' := TList CR
abbrev OList := TList OR
abbrev resV (x : Res) : Value := .agg #[.int .i64 x.err, .string x.data]
theorem res_info : (Tryz.prog.info? 53).map (·.size) = some 2 := by kernel_rfl
theorem strs_info1 : (Tryz.prog.info? 22).map (·.size) = some 1 := by kernel_rfl
section
variable {w : World} {F : Nat → Prop} {a : Option Addr} {n c : Nat}
theorem str_at {L : List ByteArray} (h : SList w F a n c L) (i : Nat) (hi : i < n) : ∃ x s, a = some x ∧ L[i]? = some s ∧ w.cell? (x.add i) = some (.string s) := by
  obtain ⟨x, s, hx, hs, hc⟩ := h.at' srOk i hi
  have := hc 0 _ rfl
  rw [show i * SR.sz + 0 = i from Nat.mul_one i] at this
  exact ⟨x, s, hx, hs, this⟩
abbrev CmdAt (w : World) (x : Addr) (i : Nat) (r : Cmd) : Prop := w.cell? (x.add (i * 3)) = some (.int .i64 r.kind) ∧ w.cell? ⟨(x.add (i * 3)).block, (x.add (i * 3)).off + 1, none⟩ = some (.int .i64 r.block) ∧ w.cell? ⟨(x.add (i * 3)).block, (x.add (i * 3)).off + 2, none⟩ = some (.string r.data)
theorem cmd_at {L : List Cmd} (h : CList' w F a n c L) (i : Nat) (hi : i < n) : ∃ x r, a = some x ∧ L[i]? = some r ∧ CmdAt w x i r := by
  obtain ⟨x, r, hx, hr, hc⟩ := h.at' crOk i hi
  exact ⟨x, r, hx, hr, hc 0 _ rfl, by rw [← ent_add_off x (i * 3) 0]; exact hc 1 _ rfl, by rw [← ent_add_off x (i * 3) 1]; exact hc 2 _ rfl⟩
abbrev ResAt (w : World) (x : Addr) (i : Nat) (r : Res) : Prop := w.cell? (x.add (i * 2)) = some (.int .i64 r.err) ∧ w.cell? ⟨(x.add (i * 2)).block, (x.add (i * 2)).off + 1, none⟩ = some (.string r.data)
theorem res_at {L : List Res} (h : OList w F a n c L) (i : Nat) (hi : i < n) : ∃ x r, a = some x ∧ L[i]? = some r ∧ ResAt w x i r := by
  obtain ⟨x, r, hx, hr, hc⟩ := h.at' orOk i hi
  exact ⟨x, r, hx, hr, hc 0 _ rfl, by rw [← ent_add_off x (i * 2) 0]; exact hc 1 _ rfl⟩
end
end Go.Proofs.YtnmhnjjehglcfaaGreat.Ents

/- The walks of the document's fits and Before. -/
namespace Go.Proofs.YtnmhnjjehglcfaaGreat.Ents
open Go.RowKit Plan HisMath Rws Env LayMath CmdMath
theorem hs_cells2 {w : World} {g : Nat} {a b : Value} {t : TypeId} {fr : Nat × Nat} (h : w.heap[g]? = some (.cells #[a, b] t fr)) : w.cell? ⟨g, 0, none⟩ = some a ∧ w.cell? ⟨g, 1, none⟩ = some b := ⟨cell_of_row _ _ 0 _ _ _ h, cell_of_row _ _ 1 _ _ _ h⟩
set_option maxHeartbeats 8000000 in
set_option maxRecDepth 20000 in
theorem refFits_any (k b e : Int) (s x : ByteArray) (w : World) :
    Calls Tryz.prog 130 #[cmdV k b s, .agg #[.int .i64 e, .string x]] w fun r w' => r = .returned (.bool (fitsB k e x.size)) ∧ Below w.heap.size w w' := by
  have K := ((Env.start w).al (cmdRow k b s)).al (.cells #[.int .i64 e, .string x] 53)
  simp only [World.size_alloc] at K
  have hcases : (e = 0 ∧ k = 1) ∨ (e = 0 ∧ k ≠ 1) ∨ e = 7 ∨ e = 1 ∨ e = 2 ∨ e = 3 ∨ e = 12 ∨ (e ≠ 0 ∧ e ≠ 7 ∧ e ≠ 1 ∧ e ≠ 2 ∧ e ≠ 3 ∧ e ≠ 12) := by omega
  rcases hcases with ⟨rfl, rfl⟩ | ⟨rfl, hk⟩ | rfl | rfl | rfl | rfl | rfl | ⟨h0, h7, h1, h2, h3, h12⟩
  · by_cases hz : x.size = 16
    · have d5 : ((x.size : Int) == 16) = true := by simp [hz]
      have hf : fitsB 1 0 x.size = true := by simp [fitsB, hz]
      rw [hf]
      clear hf
      go_enter Tryz.func130, Tryz.ntmps130
      obtain ⟨c0, c1, c2⟩ := cmd_cells (K.get 1 rfl)
      obtain ⟨q0, q1⟩ := hs_cells2 (K.get 0 rfl)
      go_wp2_with fail
      go_ret
      exact ⟨rfl, K.hb⟩
    · have d5 : ((x.size : Int) == 16) = false := by simp; omega
      have hf : fitsB 1 0 x.size = false := by simp [fitsB, hz]
      rw [hf]
      clear hf
      go_enter Tryz.func130, Tryz.ntmps130
      obtain ⟨c0, c1, c2⟩ := cmd_cells (K.get 1 rfl)
      obtain ⟨q0, q1⟩ := hs_cells2 (K.get 0 rfl)
      go_wp2_with fail
      go_ret
      exact ⟨rfl, K.hb⟩
  · have d1 : (k == 1) = false := by simpa using hk
    have d2 : (k != 1) = true := by simpa using hk
    by_cases hz : x.size = 0
    · have hf : fitsB k 0 x.size = true := by simp [fitsB, hz, hk]
      obtain rfl := bytes_none hz
      rw [hf]
      clear hf
      go_enter Tryz.func130, Tryz.ntmps130
      obtain ⟨c0, c1, c2⟩ := cmd_cells (K.get 1 rfl)
      obtain ⟨q0, q1⟩ := hs_cells2 (K.get 0 rfl)
      go_wp2_with fail
      go_ret
      exact ⟨rfl, K.hb⟩
    · have hf : fitsB k 0 x.size = false := by simp [fitsB, hz, hk]
      have hem := bytes_some hz
      rw [hf]
      clear hf
      go_enter Tryz.func130, Tryz.ntmps130
      obtain ⟨c0, c1, c2⟩ := cmd_cells (K.get 1 rfl)
      obtain ⟨q0, q1⟩ := hs_cells2 (K.get 0 rfl)
      go_wp2_with fail
      go_ret
      exact ⟨rfl, K.hb⟩
  · by_cases hz : x.size = 0
    · have hf : fitsB k 7 x.size = true := by simp [fitsB, hz]
      obtain rfl := bytes_none hz
      rw [hf]
      clear hf
      go_enter Tryz.func130, Tryz.ntmps130
      obtain ⟨c0, c1, c2⟩ := cmd_cells (K.get 1 rfl)
      obtain ⟨q0, q1⟩ := hs_cells2 (K.get 0 rfl)
      go_wp2_with fail
      go_ret
      exact ⟨rfl, K.hb⟩
    · have hf : fitsB k 7 x.size = false := by simp [fitsB, hz]
      have hem := bytes_some hz
      rw [hf]
      clear hf
      go_enter Tryz.func130, Tryz.ntmps130
      obtain ⟨c0, c1, c2⟩ := cmd_cells (K.get 1 rfl)
      obtain ⟨q0, q1⟩ := hs_cells2 (K.get 0 rfl)
      go_wp2_with fail
      go_ret
      exact ⟨rfl, K.hb⟩
  · by_cases hz : x.size = 0
    · have hf : fitsB k 1 x.size = true := by simp [fitsB, hz]
      obtain rfl := bytes_none hz
      rw [hf]
      clear hf
      go_enter Tryz.func130, Tryz.ntmps130
      obtain ⟨c0, c1, c2⟩ := cmd_cells (K.get 1 rfl)
      obtain ⟨q0, q1⟩ := hs_cells2 (K.get 0 rfl)
      go_wp2_with fail
      go_ret
      exact ⟨rfl, K.hb⟩
    · have hf : fitsB k 1 x.size = false := by simp [fitsB, hz]
      have hem := bytes_some hz
      rw [hf]
      clear hf
      go_enter Tryz.func130, Tryz.ntmps130
      obtain ⟨c0, c1, c2⟩ := cmd_cells (K.get 1 rfl)
      obtain ⟨q0, q1⟩ := hs_cells2 (K.get 0 rfl)
      go_wp2_with fail
      go_ret
      exact ⟨rfl, K.hb⟩
  · by_cases hz : x.size = 0
    · have hf : fitsB k 2 x.size = true := by simp [fitsB, hz]
      obtain rfl := bytes_none hz
      rw [hf]
      clear hf
      go_enter Tryz.func130, Tryz.ntmps130
      obtain ⟨c0, c1, c2⟩ := cmd_cells (K.get 1 rfl)
      obtain ⟨q0, q1⟩ := hs_cells2 (K.get 0 rfl)
      go_wp2_with fail
      go_ret
      exact ⟨rfl, K.hb⟩
    · have hf : fitsB k 2 x.size = false := by simp [fitsB, hz]
      have hem := bytes_some hz
      rw [hf]
      clear hf
      go_enter Tryz.func130, Tryz.ntmps130
      obtain ⟨c0, c1, c2⟩ := cmd_cells (K.get 1 rfl)
      obtain ⟨q0, q1⟩ := hs_cells2 (K.get 0 rfl)
      go_wp2_with fail
      go_ret
      exact ⟨rfl, K.hb⟩
  · by_cases hz : x.size = 0
    · have hf : fitsB k 3 x.size = true := by simp [fitsB, hz]
      obtain rfl := bytes_none hz
      rw [hf]
      clear hf
      go_enter Tryz.func130, Tryz.ntmps130
      obtain ⟨c0, c1, c2⟩ := cmd_cells (K.get 1 rfl)
      obtain ⟨q0, q1⟩ := hs_cells2 (K.get 0 rfl)
      go_wp2_with fail
      go_ret
      exact ⟨rfl, K.hb⟩
    · have hf : fitsB k 3 x.size = false := by simp [fitsB, hz]
      have hem := bytes_some hz
      rw [hf]
      clear hf
      go_enter Tryz.func130, Tryz.ntmps130
      obtain ⟨c0, c1, c2⟩ := cmd_cells (K.get 1 rfl)
      obtain ⟨q0, q1⟩ := hs_cells2 (K.get 0 rfl)
      go_wp2_with fail
      go_ret
      exact ⟨rfl, K.hb⟩
  · by_cases hz : x.size = 0
    · have hf : fitsB k 12 x.size = true := by simp [fitsB, hz]
      obtain rfl := bytes_none hz
      rw [hf]
      clear hf
      go_enter Tryz.func130, Tryz.ntmps130
      obtain ⟨c0, c1, c2⟩ := cmd_cells (K.get 1 rfl)
      obtain ⟨q0, q1⟩ := hs_cells2 (K.get 0 rfl)
      go_wp2_with fail
      go_ret
      exact ⟨rfl, K.hb⟩
    · have hf : fitsB k 12 x.size = false := by simp [fitsB, hz]
      have hem := bytes_some hz
      rw [hf]
      clear hf
      go_enter Tryz.func130, Tryz.ntmps130
      obtain ⟨c0, c1, c2⟩ := cmd_cells (K.get 1 rfl)
      obtain ⟨q0, q1⟩ := hs_cells2 (K.get 0 rfl)
      go_wp2_with fail
      go_ret
      exact ⟨rfl, K.hb⟩
  · have hf : fitsB k e x.size = false := by simp [fitsB, h0, h7, h1, h2, h3, h12]
    have b0 : (e == 0) = false := by simpa using h0
    have b7 : (e == 7) = false := by simpa using h7
    have b1 : (e == 1) = false := by simpa using h1
    have b2 : (e == 2) = false := by simpa using h2
    have b3 : (e == 3) = false := by simpa using h3
    have b12 : (e == 12) = false := by simpa using h12
    rw [hf]
    clear hf
    go_enter Tryz.func130, Tryz.ntmps130
    obtain ⟨c0, c1, c2⟩ := cmd_cells (K.get 1 rfl)
    obtain ⟨q0, q1⟩ := hs_cells2 (K.get 0 rfl)
    go_wp2_with fail
    go_ret
    exact ⟨rfl, K.hb⟩
set_option maxHeartbeats 8000000 in
set_option maxRecDepth 20000 in
theorem refBefore_any (F : Nat → Prop) (L : List Ev) (a : Option Addr) (n c : Nat) (s t : Int) (w : World) (hl : VList w F a n c L) :
    Calls Tryz.prog 44 #[.slice a n c, .int .i64 s, .int .i64 t] w fun r w' => r = .returned (.bool (beforeB L s t)) ∧ Below w.heap.size w w' := by
  have HR := Lib.hid (fun W (h : Below w.heap.size w W) => refReturned_any _ L a n c s W (hl.same h))
  have HI := Lib.hid (fun W (h : Below w.heap.size w W) => refInvoked_any _ L a n c t W (hl.same h))
  have hb := Below.refl w.heap.size w
  unfold beforeB
  generalize retI L s = i at *
  generalize invI L t = k at *
  clear hl
  go_enter Tryz.func44, Tryz.ntmps44
  go_upto_region 2 with (first
    | (go_at_call 76; ((with_reducible refine (HR.out _ hb).mono ?_); rintro r9 w1 ⟨rfl, h9⟩; replace hb := hb.trans (h9.mono hb.size); clear h9))
    | (go_at_call 75; ((with_reducible refine (HI.out _ hb).mono ?_); rintro r9 w2 ⟨rfl, h9⟩; replace hb := hb.trans (h9.mono hb.size); clear h9)))
  clear HR HI
  by_cases h1 : 0 ≤ i
  · by_cases h2 : 0 ≤ k
    · by_cases h3 : i < k
      · go_wp2_with fail
        go_ret
        exact ⟨by simp [h1, h2, h3], hb⟩
      · go_wp2_with fail
        go_ret
        exact ⟨by simp; omega, hb⟩
    · go_wp2_with fail
      go_ret
      exact ⟨by simp; omega, hb⟩
  · go_wp2_with fail
    go_ret
    exact ⟨by simp; omega, hb⟩
end Go.Proofs.YtnmhnjjehglcfaaGreat.Ents

/- The walk of the document's right. -/
namespace Go.Proofs.YtnmhnjjehglcfaaGreat.HisMath
def rightB (L : List Ev) (x : Ev) : Bool :=
  if x.queue < 0 ∨ 4 ≤ x.queue ∨ x.serial < 0 then false
  else if x.ret = false then decide (invI L x.serial < 0) && decide (retI L x.serial < 0) && (decide (x.err = 0) && decide (x.res.size = 0))
  else match (if 0 ≤ invI L x.serial then L[(invI L x.serial).toNat]? else none) with
    | some y => decide (retI L x.serial < 0) && decide (x.queue = y.queue) && (decide (x.kind = y.kind) && decide (x.block = y.block) && decide (x.data = y.data)) && fitsB x.kind x.err x.res.size
    | none => false
end Go.Proofs.YtnmhnjjehglcfaaGreat.HisMath
namespace Go.Proofs.YtnmhnjjehglcfaaGreat.Ents
open Go.RowKit Plan HisMath Rws Env LayMath
theorem ev_cells {w : World} {g : Nat} {a b c d e f h i : Value} {t : TypeId} {fr : Nat × Nat} (hh : w.heap[g]? = some (.cells #[a, b, c, d, e, f, h, i] t fr)) : w.cell? ⟨g, 0, none⟩ = some a ∧ w.cell? ⟨g, 1, none⟩ = some b ∧ w.cell? ⟨g, 2, none⟩ = some c ∧ w.cell? ⟨g, 3, none⟩ = some d ∧ w.cell? ⟨g, 4, none⟩ = some e ∧ w.cell? ⟨g, 5, none⟩ = some f ∧ w.cell? ⟨g, 6, none⟩ = some h ∧ w.cell? ⟨g, 7, none⟩ = some i :=
  ⟨cell_of_row _ _ 0 _ _ _ hh, cell_of_row _ _ 1 _ _ _ hh, cell_of_row _ _ 2 _ _ _ hh, cell_of_row _ _ 3 _ _ _ hh, cell_of_row _ _ 4 _ _ _ hh, cell_of_row _ _ 5 _ _ _ hh, cell_of_row _ _ 6 _ _ _ hh, cell_of_row _ _ 7 _ _ _ hh⟩
set_option maxHeartbeats 8000000 in
set_option maxRecDepth 20000 in
theorem refRight_call (F : Nat → Prop) (L : List Ev) (a : Option Addr) (n c : Nat) (xq xs xk xb xe : Int) (xd xx : ByteArray) (w : World) (hl : VList w F a n c L) :
    Calls Tryz.prog 99 #[.slice a n c, evV ⟨false, xq, xs, xk, xb, xd, xe, xx⟩] w fun r w' => r = .returned (.bool (rightB L ⟨false, xq, xs, xk, xb, xd, xe, xx⟩)) ∧ Below w.heap.size w w' := by
  have HI := Lib.hid (fun W (h : Below w.heap.size w W) => refInvoked_any _ L a n c xs W (hl.same h))
  have HR := Lib.hid (fun W (h : Below w.heap.size w W) => refReturned_any _ L a n c xs W (hl.same h))
  have K := (Env.start w).al (.cells #[.bool false, .int .i64 xq, .int .i64 xs, .int .i64 xk, .int .i64 xb, .string xd, .int .i64 xe, .string xx] 55)
  clear hl
  have HV := Lib.hid (Eq.refl (rightB L ⟨false, xq, xs, xk, xb, xd, xe, xx⟩))
  generalize hv : rightB L ⟨false, xq, xs, xk, xb, xd, xe, xx⟩ = V at *
  simp only [rightB] at hv
  generalize invI L xs = i1 at *
  generalize retI L xs = r1 at *
  by_cases h0 : xq < 0 ∨ 4 ≤ xq ∨ xs < 0
  · obtain rfl : V = false := by rw [← hv, if_pos h0]
    clear hv
    have hc : xq < 0 ∨ (0 ≤ xq ∧ 4 ≤ xq) ∨ (0 ≤ xq ∧ xq < 4 ∧ xs < 0) := by omega
    rcases hc with h1 | ⟨h1, h2⟩ | ⟨h1, h2, h3⟩
    · skip
      go_enter Tryz.func99, Tryz.ntmps99
      obtain ⟨q0, q1, q2, q3, q4, q5, q6, q7⟩ := ev_cells (K.get 0 rfl)
      go_wp2_with fail
      go_ret
      exact ⟨rfl, K.hb⟩
    · skip
      go_enter Tryz.func99, Tryz.ntmps99
      obtain ⟨q0, q1, q2, q3, q4, q5, q6, q7⟩ := ev_cells (K.get 0 rfl)
      go_wp2_with fail
      go_ret
      exact ⟨rfl, K.hb⟩
    · skip
      go_enter Tryz.func99, Tryz.ntmps99
      obtain ⟨q0, q1, q2, q3, q4, q5, q6, q7⟩ := ev_cells (K.get 0 rfl)
      go_wp2_with fail
      go_ret
      exact ⟨rfl, K.hb⟩
  · rw [if_neg h0] at hv
    have g1 : 0 ≤ xq := by omega
    have g2 : xq < 4 := by omega
    have g3 : 0 ≤ xs := by omega
    clear h0
    by_cases h1 : i1 < 0
    · by_cases h2 : r1 < 0
      · by_cases h3 : xe = 0
        · subst h3
          by_cases h4 : xx.size = 0
          · obtain rfl : V = true := by rw [← hv]; simp [h1, h2, h4]
            clear hv
            obtain rfl := bytes_none h4
            go_enter Tryz.func99, Tryz.ntmps99
            obtain ⟨q0, q1, q2, q3, q4, q5, q6, q7⟩ := ev_cells (K.get 0 rfl)
            go_wp2_with (first
              | (go_at_call 75; ((with_reducible refine (HI.out _ K.hb).mono ?_); rintro r9 w1 ⟨rfl, h9⟩; replace K := K.on h9; clear h9; obtain ⟨q0, q1, q2, q3, q4, q5, q6, q7⟩ := ev_cells (K.get 0 rfl)))
              | (go_at_call 76; ((with_reducible refine (HR.out _ K.hb).mono ?_); rintro r9 w1 ⟨rfl, h9⟩; replace K := K.on h9; clear h9; obtain ⟨q0, q1, q2, q3, q4, q5, q6, q7⟩ := ev_cells (K.get 0 rfl))))
            go_ret
            exact ⟨rfl, K.hb⟩
          · obtain rfl : V = false := by rw [← hv]; simp [h4]
            clear hv
            have hem := bytes_some h4
            go_enter Tryz.func99, Tryz.ntmps99
            obtain ⟨q0, q1, q2, q3, q4, q5, q6, q7⟩ := ev_cells (K.get 0 rfl)
            go_wp2_with (first
              | (go_at_call 75; ((with_reducible refine (HI.out _ K.hb).mono ?_); rintro r9 w1 ⟨rfl, h9⟩; replace K := K.on h9; clear h9; obtain ⟨q0, q1, q2, q3, q4, q5, q6, q7⟩ := ev_cells (K.get 0 rfl)))
              | (go_at_call 76; ((with_reducible refine (HR.out _ K.hb).mono ?_); rintro r9 w1 ⟨rfl, h9⟩; replace K := K.on h9; clear h9; obtain ⟨q0, q1, q2, q3, q4, q5, q6, q7⟩ := ev_cells (K.get 0 rfl))))
            go_ret
            exact ⟨rfl, K.hb⟩
        · obtain rfl : V = false := by rw [← hv]; simp [h3]
          clear hv
          have d3 : (xe == 0) = false := by simpa using h3
          go_enter Tryz.func99, Tryz.ntmps99
          obtain ⟨q0, q1, q2, q3, q4, q5, q6, q7⟩ := ev_cells (K.get 0 rfl)
          go_wp2_with (first
            | (go_at_call 75; ((with_reducible refine (HI.out _ K.hb).mono ?_); rintro r9 w1 ⟨rfl, h9⟩; replace K := K.on h9; clear h9; obtain ⟨q0, q1, q2, q3, q4, q5, q6, q7⟩ := ev_cells (K.get 0 rfl)))
            | (go_at_call 76; ((with_reducible refine (HR.out _ K.hb).mono ?_); rintro r9 w1 ⟨rfl, h9⟩; replace K := K.on h9; clear h9; obtain ⟨q0, q1, q2, q3, q4, q5, q6, q7⟩ := ev_cells (K.get 0 rfl))))
          go_ret
          exact ⟨rfl, K.hb⟩
      · obtain rfl : V = false := by rw [← hv]; simp [h2]
        clear hv
        go_enter Tryz.func99, Tryz.ntmps99
        obtain ⟨q0, q1, q2, q3, q4, q5, q6, q7⟩ := ev_cells (K.get 0 rfl)
        go_wp2_with (first
          | (go_at_call 75; ((with_reducible refine (HI.out _ K.hb).mono ?_); rintro r9 w1 ⟨rfl, h9⟩; replace K := K.on h9; clear h9; obtain ⟨q0, q1, q2, q3, q4, q5, q6, q7⟩ := ev_cells (K.get 0 rfl)))
          | (go_at_call 76; ((with_reducible refine (HR.out _ K.hb).mono ?_); rintro r9 w1 ⟨rfl, h9⟩; replace K := K.on h9; clear h9; obtain ⟨q0, q1, q2, q3, q4, q5, q6, q7⟩ := ev_cells (K.get 0 rfl))))
        go_ret
        exact ⟨rfl, K.hb⟩
    · obtain rfl : V = false := by rw [← hv]; simp [h1]
      clear hv
      go_enter Tryz.func99, Tryz.ntmps99
      obtain ⟨q0, q1, q2, q3, q4, q5, q6, q7⟩ := ev_cells (K.get 0 rfl)
      go_wp2_with (first
        | (go_at_call 75; ((with_reducible refine (HI.out _ K.hb).mono ?_); rintro r9 w1 ⟨rfl, h9⟩; replace K := K.on h9; clear h9; obtain ⟨q0, q1, q2, q3, q4, q5, q6, q7⟩ := ev_cells (K.get 0 rfl)))
        | (go_at_call 76; ((with_reducible refine (HR.out _ K.hb).mono ?_); rintro r9 w1 ⟨rfl, h9⟩; replace K := K.on h9; clear h9; obtain ⟨q0, q1, q2, q3, q4, q5, q6, q7⟩ := ev_cells (K.get 0 rfl))))
      go_ret
      exact ⟨rfl, K.hb⟩
end Go.Proofs.YtnmhnjjehglcfaaGreat.Ents
