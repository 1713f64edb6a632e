/- Texts that belong together, part 42. -/
import Derived.Test.YtnmhnjjehglcfaaGreatPack30
import Derived.Deep.DeepCutAuto

/- A part of a function's text, found by its test, so that a walk can be made in parts. -/
namespace Go.Proofs.YtnmhnjjehglcfaaGreat.Part
open Go Go.RowKit
/-- the first 'if' whose test is slot k -/
def atTest (k : Nat) : Code → Option Code
  | .seq a b => match atTest k a with
    | some c => some c
    | none => atTest k b
  | .cond (.tmp j) a b => if j = k then some (.cond (.tmp j) a b) else match atTest k a with
    | some c => some c
    | none => atTest k b
  | .block _ a => atTest k a
  | .loop a => atTest k a
  | _ => none
def test (f : Func) (k : Nat) : Code := ((f.body.bind (atTest k))).getD .skip
theorem use {P : Program} {C D : Code} {Q : Exit → Act → World → Prop} {a : Act} {w : World} (h : C = D) (hw : C.wp P Q a w) : D.wp P Q a w := h ▸ hw
end Go.Proofs.YtnmhnjjehglcfaaGreat.Part

/- A part of the walk of the laws' histories: an operation returns. -/
namespace Go.Proofs.YtnmhnjjehglcfaaGreat.Ents
open Go.RowKit Plan HisMath LinMath ModMath Rws Env LayMath
def asB (As : List Int) : Int → Bool := fun t => decide (t ∈ As)
theorem asB_cons (As : List Int) (s : Int) : asB (s :: As) = fun t => if t = s then true else asB As t := by
  funext t
  unfold asB
  by_cases h : t = s
  · simp [h]
  · simp [h]
theorem wrap_one (z : Nat) (h : z ≤ 1000) : wrap64 (1 + (z : Int)) = 1 + (z : Int) := by unfold wrap64; omega
theorem kwrap_one (z : Nat) (h : z ≤ 1000) : IntKind.i64.wrap (1 + (z : Int)) = 1 + (z : Int) := by rw [IntWalk.i64_in _ (by omega)]
theorem wrap_mul (c z : Nat) (hc : c ≤ 3) (h : z ≤ 1000) : wrap64 ((c : Int) * (z : Int)) = (c : Int) * (z : Int) := by
  have h1 : c * z ≤ 3000 := Nat.mul_le_mul hc h
  have h2 : (c : Int) * (z : Int) = ((c * z : Nat) : Int) := by simp
  rw [h2]
  unfold wrap64; omega
theorem kwrap_mul (c z : Nat) (hc : c ≤ 3) (h : z ≤ 1000) : IntKind.i64.wrap ((c : Int) * (z : Int)) = (c : Int) * (z : Int) := by
  have h1 : c * z ≤ 3000 := Nat.mul_le_mul hc h
  have h2 : (c : Int) * (z : Int) = ((c * z : Nat) : Int) := by simp
  rw [h2, IntWalk.i64_in _ (by omega)]
theorem wrap_succ (a b : Nat) (h : a ≤ 1000) (e : b = a + 1) : wrap64 ((a : Int) + 1) = (b : Int) := by subst e; unfold wrap64; omega
theorem kwrap_succ (a b : Nat) (h : a ≤ 1000) (e : b = a + 1) : IntKind.i64.wrap ((a : Int) + 1) = (b : Int) := by subst e; rw [IntWalk.i64_in _ (by omega)]; omega
theorem made_value (dv : Nat) (W : World) (h : dv ≤ 1000) : Calls Tryz.prog 29 #[.int .i64 (1 + (dv : Int))] W fun e w' => e = .returned (.string ⟨(valueL (1 + dv)).toArray⟩) ∧ Below W.heap.size W w' := by
  have h9 := value_any (1 + dv) (by omega) W
  rw [show ((1 + dv : Nat) : Int) = 1 + (dv : Int) by omega] at h9
  exact h9
/-- the blocks of the model, as a thing of the walk -/
def bT (N : Nat) (ba : Option Addr) (bc : Nat) (B : List ByteArray) : Thing := .any (fun b => ∃ x, ba = some x ∧ b = x.block) (fun W => SList W (fun b => ∃ x, ba = some x ∧ b = x.block) ba N bc B)
theorem bt_holds {W : World} {F : Nat → Prop} {N bc B0 : Nat} {ba : Option Addr} {B : List ByteArray} (h : SList W F ba N bc B) (hN : 0 < N) (hF : ∀ b, F b → B0 ≤ b) : (bT N ba bc B).holds B0 W := by
  obtain ⟨x, rfl, hx, hf, _⟩ := h.some' hN
  refine ⟨?_, fun b ⟨y, hy, hb⟩ => ?_, fun W1 W2 h1 hs hk => h1.on ⟨hs, fun b hb _ => hk b hb⟩⟩
  · rcases h with ⟨_, h1, _, _⟩ | ⟨y, hy, h2, h3, h4, h5, h6, h7⟩
    · omega
    · exact .inr ⟨y, hy, h2, h3, h4, h5, ⟨y, hy, rfl⟩, h7⟩
  · obtain rfl := Option.some.inj hy
    subst hb
    exact ⟨hF _ hf, hx⟩
theorem bt_list {w W : World} {T : List Thing} (K : Env w W T) (i : Nat) {N bc : Nat} {ba : Option Addr} {B : List ByteArray} (h : T[i]? = some (bT N ba bc B)) : SList W (fun b => ∃ x, ba = some x ∧ b = x.block) ba N bc B := (K.at' i h).1
/-- the model behind a command -/
theorem bt_next {w W W' : World} {T : List Thing} (K : Env w W T) (i : Nat) {N bc bc' : Nat} {ba ba' : Option Addr} {B B' : List ByteArray} (h : T[i]? = some (bT N ba bc B)) (hN : 0 < N) (hb : Below W.heap.size W W') (hl : SList W' (fun b => (∃ x, ba = some x ∧ b = x.block) ∨ W.heap.size ≤ b) ba' N bc' B') : Env w W' (T.set i (bT N ba' bc' B')) := by
  have hlo := (K.at' i h).2.1
  refine (K.change i h ⟨hb.os, hb.tape, hb.output, hb.size, fun b hlt _ => hb.block b hlt⟩ (bt_holds hl hN fun b hF => ?_) fun b hB => ?_).1
  · rcases hF with h1 | h1
    · exact (hlo b h1).1
    · exact Nat.le_trans K.hb.size h1
  · obtain ⟨y, rfl, rfl⟩ := hB
    obtain ⟨x, hx, _, hf, _⟩ := hl.some' hN
    obtain rfl := Option.some.inj hx
    exact hf
set_option maxHeartbeats 8000000 in
set_option maxRecDepth 20000 in
theorem ret_part (w w9 : World) (bn m0 : Nat) (wrong : Bool) (g mb : Nat) (zs : List Int) (ov pv : Option Addr) (q0 oc p pc i k k9 ik : Nat) (O P : List Ev) (As : List Int) (B : List ByteArray) (ba : Option Addr) (bc : Nat) (e : Ev) (u0 u1 u2 u4 u5 u6 u7 u8 u10 u14 u16 u17 u18 u19 u20 u21 u22 u23 u24 u25 u26 u27 u28 u29 u30 u31 u32 u33 u34 u35 u36 u37 u38 u39 u40 u41 u42 u43 u45 u46 u47 u48 u49 u50 u51 u52 u53 u54 u55 u56 u57 u58 u59 u60 u61 u62 u63 u64 u65 u66 u67 u68 u69 u70 u71 u72 u73 u74 u75 u76 u77 u78 u79 u80 u81 u82 u83 u84 u85 u86 u87 u88 u89 u90 u91 u92 u93 u94 u95 u96 u97 u98 u99 u100 u101 u102 u103 u104 u105 u106 u107 u108 u109 u110 u111 u112 u113 u114 u115 u116 u117 u118 u119 u120 u121 u122 u123 u124 u125 u126 u127 u128 u129 u130 u131 u132 u133 u134 u135 u136 u137 u138 u139 u140 u141 u142 u143 u144 u145 u146 u147 u148 u149 u150 u151 u152 u153 u154 u155 u156 u157 u158 u159 u160 u161 u162 u163 u164 u165 u166 u167 u168 u169 u170 u171 u172 u173 u174 u175 u176 u177 : Value)
    (hzl : zs.length ≤ 100000) (hk9 : k9 ≤ k + 2) (hk : k ≤ 8 * i) (hfew : p ≤ 5) (hq0 : O.length = q0) (hp : P.length = p) (hqb : q0 ≤ 29)
    (HM : RowKit.Hid (LMade bn (2 * m0) wrong O P (asB As) B (i : Int))) (he : P[ik]? = some e) (hA : e.serial ∈ As)
    (K : Env w w9 [Env.lst VR (.slice ov q0 oc) q0 O, Env.lst VR (.slice pv p pc) p P, dieT w.heap.size g zs k9, iseenT mb As, bT bn ba bc B])
    (Q : Exit → Act → World → Prop)
    (hQ : ∀ (v11 v12 v17 v18 v19 v20 v26 v27 v28 v29 v30 v31 v32 v33 v34 v35 v36 v37 v38 v39 v40 v41 v42 v43 v45 v46 v47 v48 v49 v50 v51 v52 v53 v54 v55 v56 v57 v58 v59 v60 v61 v62 v63 v64 v65 v66 v67 v68 v69 v70 v71 v72 v73 v74 v75 v76 v77 v78 v79 v80 v81 v82 v83 v84 v85 v86 v87 v88 v89 v90 v91 v92 v93 v94 v95 v96 v97 v98 v99 v100 v101 v102 v103 v104 v105 v106 v107 v108 v109 v110 v111 v112 v113 v114 v115 v116 v117 v118 v119 v120 v121 v122 v123 v124 v125 v126 v127 v128 v129 v130 v131 v132 v133 v134 v135 v136 v137 v138 v139 v140 v141 v142 v143 v144 v145 v146 v147 v148 v149 v150 v151 v152 v153 v154 v155 v156 v157 v158 v159 v160 v161 v162 v163 v164 v165 v166 v167 v168 v169 v170 v171 v172 v173 v174 v175 v176 : Value) (w' : World) (k2 : Nat) (O' P' : List Ev), k2 ≤ 8 * (i + 1) → LMade bn (2 * m0) wrong O' P' (asB As) B ((i + 1 : Nat) : Int) → O'.length = q0 + 1 → P'.length ≤ 5 → Env w w' [Env.lst VR v11 O'.length O', Env.lst VR v12 P'.length P', dieT w.heap.size g zs k2, iseenT mb As, bT bn ba bc B] → Q .normal { tmps := #[u0, u1, u2, .bool wrong, u4, u5, u6, u7, u8, .pointer (some ⟨g, 0, none⟩), u10, v11, v12, .map (some mb), u14, .int .i64 (ik : Int), u16, v17, v18, v19, v20, u21, u22, u23, u24, u25, v26, v27, v28, v29, v30, v31, v32, v33, v34, v35, v36, v37, v38, v39, v40, v41, v42, v43, .bool true, v45, v46, v47, v48, v49, v50, v51, v52, v53, v54, v55, v56, v57, v58, v59, v60, v61, v62, v63, v64, v65, v66, v67, v68, v69, v70, v71, v72, v73, v74, v75, v76, v77, v78, v79, v80, v81, v82, v83, v84, v85, v86, v87, v88, v89, v90, v91, v92, v93, v94, v95, v96, v97, v98, v99, v100, v101, v102, v103, v104, v105, v106, v107, v108, v109, v110, v111, v112, v113, v114, v115, v116, v117, v118, v119, v120, v121, v122, v123, v124, v125, v126, v127, v128, v129, v130, v131, v132, v133, v134, v135, v136, v137, v138, v139, v140, v141, v142, v143, v144, v145, v146, v147, v148, v149, v150, v151, v152, v153, v154, v155, v156, v157, v158, v159, v160, v161, v162, v163, v164, v165, v166, v167, v168, v169, v170, v171, v172, v173, v174, v175, v176, u177], defers := [] } w') :
    (Part.test Tryz.f15 44).wp Tryz.prog Q { tmps := #[u0, u1, u2, .bool wrong, u4, u5, u6, u7, u8, .pointer (some ⟨g, 0, none⟩), u10, .slice ov q0 oc, .slice pv p pc, .map (some mb), u14, .int .i64 (ik : Int), u16, u17, u18, u19, u20, u21, u22, u23, u24, u25, u26, u27, u28, u29, u30, u31, u32, u33, u34, u35, u36, u37, u38, u39, u40, u41, u42, u43, .bool true, u45, u46, u47, u48, u49, u50, u51, u52, u53, u54, u55, u56, u57, u58, u59, u60, u61, u62, u63, u64, u65, u66, u67, u68, u69, u70, u71, u72, u73, u74, u75, u76, u77, u78, u79, u80, u81, u82, u83, u84, u85, u86, u87, u88, u89, u90, u91, u92, u93, u94, u95, u96, u97, u98, u99, u100, u101, u102, u103, u104, u105, u106, u107, u108, u109, u110, u111, u112, u113, u114, u115, u116, u117, u118, u119, u120, u121, u122, u123, u124, u125, u126, u127, u128, u129, u130, u131, u132, u133, u134, u135, u136, u137, u138, u139, u140, u141, u142, u143, u144, u145, u146, u147, u148, u149, u150, u151, u152, u153, u154, u155, u156, u157, u158, u159, u160, u161, u162, u163, u164, u165, u166, u167, u168, u169, u170, u171, u172, u173, u174, u175, u176, u177], defers := [] } w9 := by
  let Q' : Exit → Act → World → Prop := bodyPost Tryz.prog Tryz.f15 fun _ _ => True
  conv => arg 2; whnf
  have hikp : ik < p := by have := (List.getElem?_eq_some_iff.1 he).1; omega
  have hik := hikp
  have hp0 : 0 < p := by omega
  obtain ⟨pg, pc9, hpe⟩ := K.val vrOk 1 rfl hp0
  obtain ⟨rfl, -, rfl⟩ : pv = some ⟨pg, 0, none⟩ ∧ p = p ∧ pc = pc9 := by cases hpe; exact ⟨rfl, rfl, rfl⟩
  clear hpe
  have hret : e.ret = false := (HM.out.made.calls (clrEv e) (List.mem_map.2 ⟨e, List.mem_of_getElem? he, rfl⟩)).2
  have HE := Lib.hid he
  have hc := fun f u (hu : (VR.c e)[f]? = some u) => (K.ownF vrOk 1 rfl (k := ik) (f := f) he hu).1
  have hikI : (ik : Int) < (p : Int) := by omega
  have hikc : ik ≤ pc := by have h9 := (K.list vrOk 1 rfl).cap; omega
  obtain ⟨er, eq, es, ek, eb, ed, ee, ex⟩ := e
  simp only at hret hA
  subst hret
  have KZ := K.al (.cells #[.bool true, .int .i64 eq, .int .i64 es, .int .i64 ek, .int .i64 eb, .string ed, .int .i64 ee, .string ex] 55)
  have z0 := hc 0 _ rfl
  have z1 := hc 1 _ rfl
  have z2 := hc 2 _ rfl
  have z3 := hc 3 _ rfl
  have z4 := hc 4 _ rfl
  have z5 := hc 5 _ rfl
  have z6 := hc 6 _ rfl
  have z7 := hc 7 _ rfl
  simp only [show VR.sz = 8 from rfl, Nat.add_zero] at z0 z1 z2 z3 z4 z5 z6 z7
  clear hc he
  go_upto_region 13 with fail
  generalize hw0 : w9.alloc (.cells #[.bool true, .int .i64 eq, .int .i64 es, .int .i64 ek, .int .i64 eb, .string ed, .int .i64 ee, .string ex] 55) = w8 at *
  clear hw0 z0 z1 z2 z3 z4 z5 z6 z7 K
  have K := KZ
  clear KZ
  generalize w9.heap.size = G at *
  obtain ⟨b0, b1, b2, b3, b4, b5, b6, b7⟩ := ev_cells (K.get 0 rfl)
  go_cut [77] (fun s wx => ∃ (bw : Bool) (k' : Nat), s = .bool bw ∧ k' ≤ k9 + 1 ∧ RowKit.Hid (bw = true → wrong = true ∧ ek = 1) ∧ Env w wx [.box G (.cells #[.bool true, .int .i64 eq, .int .i64 es, .int .i64 ek, .int .i64 eb, .string ed, .int .i64 ee, .string ex] 55), Env.lst VR (.slice ov q0 oc) q0 O, Env.lst VR (.slice (some ⟨pg, 0, none⟩) p pc) p P, dieT w.heap.size g zs k', iseenT mb As, bT bn ba bc B])
  case first =>
    cases wrong with
    | false =>
      go_wp2_with fail
      go_meet
      exact ⟨false, k9, rfl, by omega, Lib.hid (fun h => by cases h), K⟩
    | true =>
      have m6 : True := trivial
      by_cases hk1 : ek = 1
      · subst hk1
        go_wp2_with (first
          | (have z9 := m6; clear z9; go_at_call 28; ((with_reducible refine (K.next 3 rfl hzl _ (by first | assumption | decide | omega) (by first | assumption | decide | omega)).mono ?_); rintro r9 w9 ⟨y6, k9, rfl, hy6, hk9, K9, -⟩; simp only [List.set] at K9; clear K m6; have K := K9; clear K9; clear b0 b1 b2 b3 b4 b5 b6 b7; obtain ⟨b0, b1, b2, b3, b4, b5, b6, b7⟩ := ev_cells (K.get 0 rfl); rcases (show ((y6 : Int) == 3) = true ∨ ((y6 : Int) == 3) = false from by cases ((y6 : Int) == 3) <;> simp) with d9 | d9)))
        all_goals go_meet
        all_goals exact ⟨_, _, rfl, by omega, Lib.hid (fun _ => ⟨by trivial, by trivial⟩), K⟩
      · have d3 : (ek == 1) = false := by simpa using hk1
        go_wp2_with (first
          | (have z9 := m6; clear z9; go_at_call 28; ((with_reducible refine (K.next 3 rfl hzl _ (by first | assumption | decide | omega) (by first | assumption | decide | omega)).mono ?_); rintro r9 w9 ⟨y6, k9, rfl, hy6, hk9, K9, -⟩; simp only [List.set] at K9; clear K m6; have K := K9; clear K9; clear b0 b1 b2 b3 b4 b5 b6 b7; obtain ⟨b0, b1, b2, b3, b4, b5, b6, b7⟩ := ev_cells (K.get 0 rfl); rcases (show ((y6 : Int) == 3) = true ∨ ((y6 : Int) == 3) = false from by cases ((y6 : Int) == 3) <;> simp) with d9 | d9)))
        all_goals go_meet
        all_goals exact ⟨false, _, rfl, by omega, Lib.hid (fun h => by cases h), K⟩
  case rest =>
    clear K b0 b1 b2 b3 b4 b5 b6 b7
    obtain ⟨bw, k1, rfl, hk1, hbw, K⟩ := hcut
    obtain ⟨b0, b1, b2, b3, b4, b5, b6, b7⟩ := ev_cells (K.get 0 rfl)
    have f7 := K.free 0 rfl 7
    go_upto_if 77 with fail
    go_cut [] (fun wx => ∃ (x2 : ByteArray) (k' : Nat), RowKit.Hid (x2 = ex ∨ (wrong = true ∧ ek = 1 ∧ x2.size = 16)) ∧ k' ≤ k1 + 1 ∧ Env w wx [.box G (.cells #[.bool true, .int .i64 eq, .int .i64 es, .int .i64 ek, .int .i64 eb, .string ed, .int .i64 ee, .string x2] 55), Env.lst VR (.slice ov q0 oc) q0 O, Env.lst VR (.slice (some ⟨pg, 0, none⟩) p pc) p P, dieT w.heap.size g zs k', iseenT mb As, bT bn ba bc B])
    case first =>
      cases bw with
      | false =>
        go_wp2_with fail
        go_meet
        exact ⟨ex, k1, Lib.hid (.inl rfl), by omega, K⟩
      | true =>
        have m6 : True := trivial
        go_wp2_with (first
          | (have z9 := m6; clear z9; go_at_call 28; ((with_reducible refine (K.next 3 rfl hzl _ (by first | assumption | decide | omega) (by first | assumption | decide | omega)).mono ?_); rintro r9 w9 ⟨dv, k9, rfl, hdv, hk9, K9, -⟩; simp only [List.set] at K9; clear K m6; have K := K9; clear K9; have hdvb : dv ≤ 100000 := (by omega)))
          | (go_at_call 29; ((with_reducible refine (value_any dv hdvb _).mono ?_); rintro r9 w11 ⟨rfl, hb⟩; have K9 := K.on hb; clear K hb; have K := K9; clear K9; have hsv : (⟨(valueL dv).toArray⟩ : ByteArray).size = 16 := value_length dv; generalize (⟨(valueL dv).toArray⟩ : ByteArray) = sv at *; clear b0 b1 b2 b3 b4 b5 b6 b7; obtain ⟨b0, b1, b2, b3, b4, b5, b6, b7⟩ := ev_cells (K.get 0 rfl); have f7 := K.free 0 rfl 7)))
        have K9 := K.put1 0 rfl (cs' := #[.bool true, .int .i64 eq, .int .i64 es, .int .i64 ek, .int .i64 eb, .string ed, .int .i64 ee, .string sv]) 7 (.string sv) rfl rfl
        simp only [List.set] at K9
        go_meet
        exact ⟨sv, _, Lib.hid (.inr ⟨(hbw.out (by trivial)).1, (hbw.out (by trivial)).2, hsv⟩), by omega, K9⟩
    case rest =>
      clear K b0 b1 b2 b3 b4 b5 b6 b7 f7
      obtain ⟨x2, k2, hx2, hk2', K⟩ := hcut
      have KB := K.al (.cells #[.bool true, .int .i64 eq, .int .i64 es, .int .i64 ek, .int .i64 eb, .string ed, .int .i64 ee, .string x2] 55)
      go_upto_region 16 with (first
        | ((with_reducible refine Plan.load_lit 55 (.tmp 17) G ?_ (K.get 0 rfl) Tryz.underlying55 ?_ ?_ ?_); (· rfl); (· rfl); (· exact ev_info); simp only [Act.put, List.setIfInBounds_toArray, List.set_cons_zero, List.set_cons_succ])
        | (refine KB.apps_one vrOk rfl (.tmp 83) (.tmp 85) rfl 2 0 rfl rfl (e := ⟨true, eq, es, ek, eb, ed, ee, x2⟩) rfl rfl (by omega) ?_; intro go co w3 K8 k8; simp only [List.set] at K8 k8; simp only [Act.put, List.setIfInBounds_toArray, List.set_cons_zero, List.set_cons_succ]; clear KB K k8))
      have K := K8.drew
      clear K8
      obtain ⟨ik1, hik1⟩ : ∃ ik1, ik1 = ik + 1 := ⟨_, rfl⟩
      have hl := K.list vrOk 3 rfl
      have hikp : ik ≤ p := by omega
      have hik1p : ik1 ≤ p := by omega
      obtain ⟨hcp, hcm⟩ := hl.cap
      unfold maxLen at hcm
      have hikc : ik ≤ pc := by omega
      have hik1c : ik1 ≤ pc := by omega
      have hlenQ : (P.take ik ++ P.drop ik1).length = ik + (p - ik1) := by rw [List.length_append, List.length_take, List.length_drop, hp]; omega
      have HLQ := Lib.hid hlenQ
      have HB1 := Lib.hid (And.intro (by omega) (by omega) : ik ≤ 1000000 ∧ ik + (p - ik1) ≤ 1000000)
      have HMQ : RowKit.Hid (LMade bn (2 * m0) wrong (O ++ [(⟨true, eq, es, ek, eb, ed, ee, x2⟩ : Ev)]) (P.take ik ++ P.drop ik1) (asB As) B ((i + 1 : Nat) : Int)) := Lib.hid (by
        rw [hik1]
        exact (HM.out.ret (x := ⟨true, eq, es, ek, eb, ed, ee, x2⟩) HE.out (decide_eq_true hA) (hx2.out.elim (fun h => .inl (by rw [h]; rfl)) (fun h => .inr ⟨h.1, h.2.1, x2, h.2.2, by rfl⟩))).mono (by omega))
      have HQ9 := Lib.hid (show ik + (p - ik1) ≤ 5 by omega)
      have HK9 := Lib.hid (show k2 ≤ 8 * (i + 1) by omega)
      have HO9 := Lib.hid (show (O ++ [(⟨true, eq, es, ek, eb, ed, ee, x2⟩ : Ev)]).length = q0 + 1 by rw [List.length_append, hq0]; rfl)
      have hle1 : (ik1 : Int) ≤ (p : Int) := by omega
      have hw1 : IntKind.i64.wrap ((ik : Int) + 1) = (ik1 : Int) := kwrap_succ ik ik1 (by omega) hik1
      have hw2 : wrap64 ((ik : Int) + 1) = (ik1 : Int) := wrap_succ ik ik1 (by omega) hik1
      clear hik1 hl hk hik hk2' hlenQ HM HE hp hx2 hA hq0
      by_cases hpc : pc = ik1
      · obtain rfl : p = pc := (by clear hw1 hw2; omega)
        subst hpc
        simp only [Nat.sub_self, Nat.add_zero] at HLQ HQ9 HB1
        refine Plan.start (fun W => True) [(1, true), (2, true), (3, true), (5, true), (6, true), (7, true), (8, true), (0, false), (4, false), (9, false), (10, true)] (by kernel_rfl) (by kernel_rfl) (by kernel_rfl) (by kernel_rfl) trivial ?_
        simp only [List.map_cons, List.map_nil, List.getElem?_toArray, List.getElem?_cons_zero, List.getElem?_cons_succ]
        generalize World.drew _ = w4 at *
        repeat (first | (refine Plan.take ?_ (by rfl) ?_ ?_; rotate_left; (· rintro w9 -; go_simp; (try rw [if_neg (by omega)]); all_goals (with_reducible rfl)); simp only [Act.put, List.setIfInBounds_toArray, List.set_cons_zero, List.set_cons_succ]) | (refine Plan.pass (by rfl) ?_; simp only [Act.put, List.setIfInBounds_toArray, List.set_cons_zero, List.set_cons_succ]))
        have K9 : Env w (w4.alloc (.cells #[] 55)) (Env.lst VR (Env.slv w4.heap.size 0 0) 0 [] :: _) := K.empty VR
        refine Plan.make (by rfl) (.slice (some ⟨w4.heap.size, 0, none⟩) 0 0) (w4.alloc (.cells #[] 55)) ?_ trivial ?_
        · go_simp
        simp only [Act.put, List.setIfInBounds_toArray, List.set_cons_zero, List.set_cons_succ]
        clear K
        have K := K9
        clear K9
        generalize w4.heap.size = gC at *
        generalize w4.alloc (.cells #[] 55) = w5 at *
        refine Plan.carry (by rfl) (K.app_list vrOk (.tmp 87) (.tmp 90) rfl 0 rfl rfl rfl ((K.list vrOk 4 rfl).front vrOk ik hikp) (by rw [Nat.zero_add]; exact HB1.out.1) ?_)
        intro gC cC w6 K9 _
        simp only [List.set, Nat.zero_add, List.nil_append] at K9
        refine ⟨trivial, ?_⟩
        simp only [Nat.zero_add, Act.put, List.setIfInBounds_toArray, List.set_cons_zero, List.set_cons_succ]
        clear K
        have K := K9
        clear K9
        refine Plan.carry (by rfl) (K.app_list vrOk (.tmp 91) (.tmp 95) rfl 0 rfl rfl rfl ((show TList VR _ (fun b => w.heap.size ≤ b) (some ⟨pg, 0, none⟩) 0 0 (P.drop p) from by have h9 := rest_list vrOk (K.list vrOk 4 rfl) (Nat.le_refl p) hp0; rw [if_pos rfl, Nat.sub_self] at h9; exact h9)) HB1.out.2 ?_)
        intro gD cD w7 K9 _
        simp only [List.set] at K9
        refine ⟨trivial, ?_⟩
        simp only [Act.put, List.setIfInBounds_toArray, List.set_cons_zero, List.set_cons_succ]
        clear K
        have K := K9
        clear K9
        repeat (first | (refine Plan.take ?_ (by rfl) ?_ ?_; rotate_left; (· rintro w9 -; go_simp; (try rw [if_neg (by omega)]); all_goals (with_reducible rfl)); simp only [Act.put, List.setIfInBounds_toArray, List.set_cons_zero, List.set_cons_succ]) | (refine Plan.pass (by rfl) ?_; simp only [Act.put, List.setIfInBounds_toArray, List.set_cons_zero, List.set_cons_succ]))
        refine Plan.ends ?_
        go_wp2_with fail
        have KE := K.sub (T' := [Env.lst VR (Env.slv go (q0 + 1) co) (q0 + 1) (O ++ [⟨true, eq, es, ek, eb, ed, ee, x2⟩]), Env.lst VR (Env.slv gD (ik) cD) (ik) (P.take ik ++ P.drop p), dieT w.heap.size g zs k2, iseenT mb As, bT bn ba bc B]) [3, 0, 5, 6, 7] rfl (by simp) (by simp)
        exact hQ _ _ _ _ _ _ _ _ _ _ _ _ _ _ _ _ _ _ _ _ _ _ _ _ _ _ _ _ _ _ _ _ _ _ _ _ _ _ _ _ _ _ _ _ _ _ _ _ _ _ _ _ _ _ _ _ _ _ _ _ _ _ _ _ _ _ _ _ _ _ _ _ _ _ _ _ _ _ _ _ _ _ _ _ _ _ _ _ _ _ _ _ _ _ _ _ _ _ _ _ _ _ _ _ _ _ _ _ _ _ _ _ _ _ _ _ _ _ _ _ _ _ _ _ _ _ _ _ _ _ _ _ _ _ _ _ _ _ _ _ _ _ _ _ _ _ _ _ _ _ _ _ _ _ _ _ _ _ _ _ HK9.out HMQ.out HO9.out (by rw [HLQ.out]; exact HQ9.out) (by rw [HO9.out, HLQ.out]; exact KE)
      · have hpc2 : ik1 < pc := (by clear hw1 hw2; omega)
        refine Plan.start (fun W => True) [(1, true), (2, true), (3, true), (5, true), (6, true), (7, true), (8, true), (0, false), (4, false), (9, false), (10, true)] (by kernel_rfl) (by kernel_rfl) (by kernel_rfl) (by kernel_rfl) trivial ?_
        simp only [List.map_cons, List.map_nil, List.getElem?_toArray, List.getElem?_cons_zero, List.getElem?_cons_succ]
        generalize World.drew _ = w4 at *
        repeat (first | (refine Plan.take ?_ (by rfl) ?_ ?_; rotate_left; (· rintro w9 -; go_simp; (try rw [if_neg (by omega)]); all_goals (with_reducible rfl)); simp only [Act.put, List.setIfInBounds_toArray, List.set_cons_zero, List.set_cons_succ]) | (refine Plan.pass (by rfl) ?_; simp only [Act.put, List.setIfInBounds_toArray, List.set_cons_zero, List.set_cons_succ]))
        have K9 : Env w (w4.alloc (.cells #[] 55)) (Env.lst VR (Env.slv w4.heap.size 0 0) 0 [] :: _) := K.empty VR
        refine Plan.make (by rfl) (.slice (some ⟨w4.heap.size, 0, none⟩) 0 0) (w4.alloc (.cells #[] 55)) ?_ trivial ?_
        · go_simp
        simp only [Act.put, List.setIfInBounds_toArray, List.set_cons_zero, List.set_cons_succ]
        clear K
        have K := K9
        clear K9
        generalize w4.heap.size = gC at *
        generalize w4.alloc (.cells #[] 55) = w5 at *
        refine Plan.carry (by rfl) (K.app_list vrOk (.tmp 87) (.tmp 90) rfl 0 rfl rfl rfl ((K.list vrOk 4 rfl).front vrOk ik hikp) (by rw [Nat.zero_add]; exact HB1.out.1) ?_)
        intro gC cC w6 K9 _
        simp only [List.set, Nat.zero_add, List.nil_append] at K9
        refine ⟨trivial, ?_⟩
        simp only [Nat.zero_add, Act.put, List.setIfInBounds_toArray, List.set_cons_zero, List.set_cons_succ]
        clear K
        have K := K9
        clear K9
        refine Plan.carry (by rfl) (K.app_list vrOk (.tmp 91) (.tmp 95) rfl 0 rfl rfl rfl ((show TList VR _ (fun b => w.heap.size ≤ b) (some ⟨pg, ik1 * 8, none⟩) (p - ik1) (pc - ik1) (P.drop ik1) from by have h9 := rest_list vrOk (K.list vrOk 4 rfl) hik1p hp0; rwa [if_neg hpc] at h9)) HB1.out.2 ?_)
        intro gD cD w7 K9 _
        simp only [List.set] at K9
        refine ⟨trivial, ?_⟩
        simp only [Act.put, List.setIfInBounds_toArray, List.set_cons_zero, List.set_cons_succ]
        clear K
        have K := K9
        clear K9
        repeat (first | (refine Plan.take ?_ (by rfl) ?_ ?_; rotate_left; (· rintro w9 -; go_simp; (try rw [if_neg (by omega)]); all_goals (with_reducible rfl)); simp only [Act.put, List.setIfInBounds_toArray, List.set_cons_zero, List.set_cons_succ]) | (refine Plan.pass (by rfl) ?_; simp only [Act.put, List.setIfInBounds_toArray, List.set_cons_zero, List.set_cons_succ]))
        refine Plan.ends ?_
        go_wp2_with fail
        have KE := K.sub (T' := [Env.lst VR (Env.slv go (q0 + 1) co) (q0 + 1) (O ++ [⟨true, eq, es, ek, eb, ed, ee, x2⟩]), Env.lst VR (Env.slv gD (ik + (p - ik1)) cD) (ik + (p - ik1)) (P.take ik ++ P.drop ik1), dieT w.heap.size g zs k2, iseenT mb As, bT bn ba bc B]) [3, 0, 5, 6, 7] rfl (by simp) (by simp)
        exact hQ _ _ _ _ _ _ _ _ _ _ _ _ _ _ _ _ _ _ _ _ _ _ _ _ _ _ _ _ _ _ _ _ _ _ _ _ _ _ _ _ _ _ _ _ _ _ _ _ _ _ _ _ _ _ _ _ _ _ _ _ _ _ _ _ _ _ _ _ _ _ _ _ _ _ _ _ _ _ _ _ _ _ _ _ _ _ _ _ _ _ _ _ _ _ _ _ _ _ _ _ _ _ _ _ _ _ _ _ _ _ _ _ _ _ _ _ _ _ _ _ _ _ _ _ _ _ _ _ _ _ _ _ _ _ _ _ _ _ _ _ _ _ _ _ _ _ _ _ _ _ _ _ _ _ _ _ _ _ _ _ HK9.out HMQ.out HO9.out (by rw [HLQ.out]; exact HQ9.out) (by rw [HO9.out, HLQ.out]; exact KE)
end Go.Proofs.YtnmhnjjehglcfaaGreat.Ents
