/- Texts that belong together, part 43. -/
import Derived.Test.YtnmhnjjehglcfaaGreatPack42

/- A part of the walk of the laws' histories: an operation is invoked. -/
namespace Go.Proofs.YtnmhnjjehglcfaaGreat.Ents
open Go.RowKit Plan HisMath LinMath ModMath Rws Env LayMath
set_option maxHeartbeats 8000000 in
set_option maxRecDepth 20000 in
theorem inv_part (w w9 : World) (bn m0 : Nat) (wrong : Bool) (g mb : Nat) (zs : List Int) (ov pv : Option Addr) (q0 oc p pc i k k9 : Nat) (O P : List Ev) (As : List Int) (B : List ByteArray) (ba : Option Addr) (bc : Nat) (u0 u2 u3 u4 u5 u6 u7 u8 u10 u13 u15 u16 u17 u18 u19 u20 u21 u22 u23 u24 u25 u26 u27 u28 u29 u30 u31 u32 u33 u34 u35 u36 u37 u38 u39 u40 u41 u42 u43 u44 u45 u46 u47 u48 u49 u50 u51 u52 u53 u54 u55 u56 u57 u58 u59 u60 u61 u62 u63 u64 u65 u66 u67 u68 u69 u70 u71 u72 u73 u74 u75 u76 u77 u78 u79 u80 u81 u82 u83 u84 u85 u86 u87 u88 u89 u90 u91 u92 u93 u94 u95 u96 u97 u98 u99 u100 u101 u102 u103 u104 u105 u106 u107 u108 u109 u110 u111 u112 u113 u114 u115 u116 u117 u118 u119 u120 u121 u122 u123 u124 u125 u126 u127 u128 u129 u130 u131 u132 u133 u134 u135 u136 u138 u139 u140 u141 u142 u143 u144 u145 u146 u147 u148 u149 u150 u151 u152 u153 u154 u155 u156 u157 u158 u159 u160 u161 u162 u163 u164 u165 u166 u167 u168 u169 u170 u171 u172 u173 u174 u175 u176 u177 : Value)
    (hzl : zs.length ≤ 100000) (hk9 : k9 ≤ k + 2) (hk : k ≤ 8 * i) (hq0 : O.length = q0) (hp : P.length = p) (hqb : q0 ≤ 29) (hp5 : p < 5) (hq5 : q0 < 2 * m0) (h1 : 1 ≤ bn) (h3 : bn ≤ 3)
    (HM : RowKit.Hid (LMade bn (2 * m0) wrong O P (asB As) B (i : Int)))
    (K : Env w w9 [Env.lst VR (.slice ov q0 oc) q0 O, Env.lst VR (.slice pv p pc) p P, dieT w.heap.size g zs k9, iseenT mb As, bT bn ba bc B])
    (Q : Exit → Act → World → Prop)
    (hQ : ∀ (v11 v12 v17 v18 v19 v20 v26 v27 v28 v29 v30 v31 v32 v33 v34 v35 v36 v37 v38 v39 v40 v41 v42 v43 v44 v45 v46 v47 v48 v49 v50 v51 v52 v53 v54 v55 v56 v57 v58 v59 v60 v61 v62 v63 v64 v65 v66 v67 v68 v69 v70 v71 v72 v73 v74 v75 v76 v77 v78 v79 v80 v81 v82 v83 v84 v85 v86 v87 v88 v89 v90 v91 v92 v93 v94 v95 v96 v97 v98 v99 v100 v101 v102 v103 v104 v105 v106 v107 v108 v109 v110 v111 v112 v113 v114 v115 v116 v117 v118 v119 v120 v121 v122 v123 v124 v125 v126 v127 v128 v129 v130 v131 v132 v133 v134 v135 v136 v138 v139 v140 v141 v142 v143 v144 v145 v146 v147 v148 v149 v150 v151 v152 v153 v154 v155 v156 v157 v158 v159 v160 v161 v162 v163 v164 v165 v166 v167 v168 v169 v170 v171 v172 v173 v174 v175 v176 : Value) (w' : World) (k2 : Nat) (O' P' : List Ev), k2 ≤ 8 * (i + 1) → LMade bn (2 * m0) wrong O' P' (asB As) B ((i + 1 : Nat) : Int) → O'.length = q0 + 1 → P'.length = p + 1 → Env w w' [Env.lst VR v11 O'.length O', Env.lst VR v12 P'.length P', dieT w.heap.size g zs k2, iseenT mb As, bT bn ba bc B] → Q .normal { tmps := #[u0, .int .i64 (bn : Int), u2, u3, u4, u5, u6, u7, u8, .pointer (some ⟨g, 0, none⟩), u10, v11, v12, u13, .int .i64 (i : Int), u15, u16, v17, v18, v19, v20, u21, u22, u23, u24, u25, v26, v27, v28, v29, v30, v31, v32, v33, v34, v35, v36, v37, v38, v39, v40, v41, v42, v43, v44, v45, v46, v47, v48, v49, v50, v51, v52, v53, v54, v55, v56, v57, v58, v59, v60, v61, v62, v63, v64, v65, v66, v67, v68, v69, v70, v71, v72, v73, v74, v75, v76, v77, v78, v79, v80, v81, v82, v83, v84, v85, v86, v87, v88, v89, v90, v91, v92, v93, v94, v95, v96, v97, v98, v99, v100, v101, v102, v103, v104, v105, v106, v107, v108, v109, v110, v111, v112, v113, v114, v115, v116, v117, v118, v119, v120, v121, v122, v123, v124, v125, v126, v127, v128, v129, v130, v131, v132, v133, v134, v135, v136, .bool true, v138, v139, v140, v141, v142, v143, v144, v145, v146, v147, v148, v149, v150, v151, v152, v153, v154, v155, v156, v157, v158, v159, v160, v161, v162, v163, v164, v165, v166, v167, v168, v169, v170, v171, v172, v173, v174, v175, v176, u177], defers := [] } w') :
    (Part.test Tryz.f15 137).wp Tryz.prog Q { tmps := #[u0, .int .i64 (bn : Int), u2, u3, u4, u5, u6, u7, u8, .pointer (some ⟨g, 0, none⟩), u10, .slice ov q0 oc, .slice pv p pc, u13, .int .i64 (i : Int), u15, u16, u17, u18, u19, u20, u21, u22, u23, u24, u25, u26, u27, u28, u29, u30, u31, u32, u33, u34, u35, u36, u37, u38, u39, u40, u41, u42, u43, u44, u45, u46, u47, u48, u49, u50, u51, u52, u53, u54, u55, u56, u57, u58, u59, u60, u61, u62, u63, u64, u65, u66, u67, u68, u69, u70, u71, u72, u73, u74, u75, u76, u77, u78, u79, u80, u81, u82, u83, u84, u85, u86, u87, u88, u89, u90, u91, u92, u93, u94, u95, u96, u97, u98, u99, u100, u101, u102, u103, u104, u105, u106, u107, u108, u109, u110, u111, u112, u113, u114, u115, u116, u117, u118, u119, u120, u121, u122, u123, u124, u125, u126, u127, u128, u129, u130, u131, u132, u133, u134, u135, u136, .bool true, u138, u139, u140, u141, u142, u143, u144, u145, u146, u147, u148, u149, u150, u151, u152, u153, u154, u155, u156, u157, u158, u159, u160, u161, u162, u163, u164, u165, u166, u167, u168, u169, u170, u171, u172, u173, u174, u175, u176, u177], defers := [] } w9 := by
  let Q' : Exit → Act → World → Prop := bodyPost Tryz.prog Tryz.f15 fun _ _ => True
  conv => arg 2; whnf
  have hbn1 : (1 : Int) ≤ (bn : Int) := by omega
  have hbn2 : (bn : Int) ≤ 4611686018427387904 := by omega
  have m3 : True := trivial
  have m4 : True := trivial
  have m5 : True := trivial
  go_upto_if 162 with (first
    | (have z9 := m3; clear z9; go_at_call 28; ((with_reducible refine (K.next 2 rfl hzl _ (by first | assumption | decide | omega) (by first | assumption | decide | omega)).mono ?_); rintro r9 w9 ⟨q, k9, rfl, hq, hk9, K9, -⟩; simp only [List.set] at K9; clear K m3; have K := K9; clear K9))
    | (have z9 := m4; clear z9; go_at_call 28; ((with_reducible refine (K.next 2 rfl hzl _ (by first | assumption | decide | omega) (by first | assumption | decide | omega)).mono ?_); rintro r9 w9 ⟨y, k9, rfl, hy, hk9, K9, -⟩; simp only [List.set] at K9; clear K m4; have K := K9; clear K9; have hyb : y ≤ 1000 := (by omega); have hk65 : IntKind.i64.wrap (1 + (y : Int)) = 1 + (y : Int) := kwrap_one y hyb; have hk64 : wrap64 (1 + (y : Int)) = 1 + (y : Int) := wrap_one y hyb))
    | (have z9 := m5; clear z9; go_at_call 28; ((with_reducible refine (K.next 2 rfl hzl _ (by first | assumption | decide | omega) (by first | assumption | decide | omega)).mono ?_); rintro r9 w9 ⟨bl, k9, rfl, hbl, hk9, K9, -⟩; simp only [List.set] at K9; clear K m5; have K := K9; clear K9; have KZ := K.al (.cells #[.bool false, .int .i64 0, .int .i64 0, .int .i64 0, .int .i64 0, .string ⟨#[]⟩, .int .i64 0, .string ⟨#[]⟩] 55)))
    | ((with_reducible refine Plan.store_lit 55 (.tmp 20) _ w9.heap.size #[.bool false, .int .i64 (q : Int), .int .i64 (i : Int), .int .i64 (1 + (y : Int)), .int .i64 (bl : Int), .string ⟨#[]⟩, .int .i64 0, .string ⟨#[]⟩] (KZ.get 0 rfl) ?_ ?_ ?_ ?_ ?_ ?_); rotate_left; (· rfl); (· exact ev_info); (· rfl); (· simp [Value.oneCell']); rotate_left; (· rfl); simp only [Act.put]; have K9 := KZ.put 0 rfl (cs' := #[.bool false, .int .i64 (q : Int), .int .i64 (i : Int), .int .i64 (1 + (y : Int)), .int .i64 (bl : Int), .string ⟨#[]⟩, .int .i64 0, .string ⟨#[]⟩]) rfl; simp only [List.set] at K9; clear K KZ; have K := K9; clear K9; generalize World.setRow _ _ _ = w10 at *; generalize w9.heap.size = G at *; obtain ⟨b0, b1, b2, b3, b4, b5, b6, b7⟩ := ev_cells (K.get 0 rfl)))
  clear hk64 hk65
  go_cut [] (fun wx => ∃ (sv : ByteArray) (k' : Nat), k' ≤ k9 + 1 ∧ RowKit.Hid (CmdMath.checkC (bn : Int) (1 + (y : Int)) (bl : Int) sv.size = 0) ∧ Env w wx [.box G (.cells #[.bool false, .int .i64 (q : Int), .int .i64 (i : Int), .int .i64 (1 + (y : Int)), .int .i64 (bl : Int), .string sv, .int .i64 0, .string ⟨#[]⟩] 55), Env.lst VR (.slice ov q0 oc) q0 O, Env.lst VR (.slice pv p pc) p P, dieT w.heap.size g zs k', iseenT mb As, bT bn ba bc B])
  case first =>
    by_cases hy1 : y = 1
    · have d1 : ((1 + (y : Int)) == 2) = true := by simp; omega
      have d2 : (1 + (y : Int)) = 2 := by omega
      have m6 : True := trivial
      have hck := Lib.hid (fun (n : Nat) (h : n = 16) => (show CmdMath.checkC (bn : Int) (1 + (y : Int)) (bl : Int) n = 0 from by unfold CmdMath.checkC; rw [if_neg (by omega), if_neg (by omega), if_neg (by omega)]))
      go_wp2_with (first
        | (have z9 := m6; clear z9; go_at_call 28; ((with_reducible refine (K.next 3 rfl hzl _ (by first | assumption | decide | omega) (by first | assumption | decide | omega)).mono ?_); rintro r9 w9 ⟨dv, k9, rfl, hdv, hk9, K9, -⟩; simp only [List.set] at K9; clear K m6; have K := K9; clear K9; have hdvb : dv ≤ 1000 := (by omega); have HVA := fun W => made_value dv W hdvb; have hk75 : IntKind.i64.wrap (1 + (dv : Int)) = 1 + (dv : Int) := kwrap_one dv hdvb; have hk74 : wrap64 (1 + (dv : Int)) = 1 + (dv : Int) := wrap_one dv hdvb))
        | (go_at_call 29; ((with_reducible refine (HVA _).mono ?_); rintro r9 w11 ⟨rfl, hb⟩; have K9 := K.on hb; clear K hb; have K := K9; clear K9; have hsv : (⟨(valueL (1 + dv)).toArray⟩ : ByteArray).size = 16 := value_length (1 + dv); generalize (⟨(valueL (1 + dv)).toArray⟩ : ByteArray) = sv at *; clear b0 b1 b2 b3 b4 b5 b6 b7; obtain ⟨b0, b1, b2, b3, b4, b5, b6, b7⟩ := ev_cells (K.get 0 rfl); have f5 := K.free 0 rfl 5; have f7 := K.free 0 rfl 7)))
      clear hk75 hk74
      have K9 := K.put1 0 rfl (cs' := #[.bool false, .int .i64 (q : Int), .int .i64 (i : Int), .int .i64 (1 + (y : Int)), .int .i64 (bl : Int), .string sv, .int .i64 0, .string ⟨#[]⟩]) 5 (.string sv) rfl rfl
      simp only [List.set] at K9
      go_meet
      exact ⟨sv, _, by omega, Lib.hid (hck.out _ hsv), K9⟩
    · have d1 : ((1 + (y : Int)) == 2) = false := by simp; omega
      have d2 : ¬ (1 + (y : Int)) = 2 := by omega
      have hck := Lib.hid (show CmdMath.checkC (bn : Int) (1 + (y : Int)) (bl : Int) (⟨#[]⟩ : ByteArray).size = 0 from by unfold CmdMath.checkC; rw [if_neg (by omega), if_neg (by omega), if_neg (by have : (⟨#[]⟩ : ByteArray).size = 0 := rfl; omega)])
      go_wp2_with fail
      go_meet
      exact ⟨⟨#[]⟩, _, by omega, hck, K⟩
  case rest =>
    clear K b0 b1 b2 b3 b4 b5 b6 b7
    obtain ⟨sv, k2, hk2', hck, K⟩ := hcut
    have hinv := Lib.hid (HM.out.inv (x := ⟨false, (q : Int), (i : Int), 1 + (y : Int), (bl : Int), sv, 0, ⟨#[]⟩⟩) rfl (by show (0 : Int) ≤ (q : Int); omega) (by show (q : Int) < 4; omega) rfl (by omega) rfl rfl hck.out (by show ¬ (1 + (y : Int)) = 4; omega) (by omega) (by omega) (by omega))
    have hO9 : (O ++ [(⟨false, (q : Int), (i : Int), 1 + (y : Int), (bl : Int), sv, 0, ⟨#[]⟩⟩ : Ev)]).length = q0 + 1 := by rw [List.length_append, hq0]; rfl
    have hP9 : (P ++ [(⟨false, (q : Int), (i : Int), 1 + (y : Int), (bl : Int), sv, 0, ⟨#[]⟩⟩ : Ev)]).length = p + 1 := by rw [List.length_append, hp]; rfl
    go_upto_region 26 with fail
    refine LTree.start (fun W => W.heap[G]? = some (.cells #[.bool false, .int .i64 (q : Int), .int .i64 (i : Int), .int .i64 (1 + (y : Int)), .int .i64 (bl : Int), .string sv, .int .i64 0, .string ⟨#[]⟩] 55)) (.take 0 (.take 1 (.take 4 (.take 5 (.fork 2 (.fork 3 (.only 6 (.only 7 (.take 8 (.take 9 (.done))))) 6 (.only 3 (.only 7 (.take 8 (.take 9 (.done)))))) 6 (.only 2 (.only 3 (.only 7 (.take 8 (.take 9 (.done))))))))))) (by kernel_rfl) (by kernel_rfl) (by kernel_rfl) (by kernel_rfl) (K.drew.get 0 rfl) ?_
    simp only [Tree.T.map, List.getElem?_toArray, List.getElem?_cons_zero, List.getElem?_cons_succ]
    have K9 := K.drew
    clear K
    have K := K9
    clear K9
    generalize hv0 : World.drew wc = v1 at *
    clear hv0
    repeat (first | (refine LTree.take ?_ (by rfl) ?_ ?_; rotate_left; (· rintro w9 u0; go_simp; (try rw [if_neg (by omega)]); all_goals (with_reducible rfl)); simp only [Act.put, List.setIfInBounds_toArray, List.set_cons_zero, List.set_cons_succ]))
    refine LTree.take_load 55 (.tmp 20) (G) _ (by rfl) rfl (by rfl) (fun w9 h9 => h9) Tryz.underlying55 rfl ev_info ?_
    simp only [Act.put, List.setIfInBounds_toArray, List.set_cons_zero, List.set_cons_succ]
    repeat (first | (refine LTree.take ?_ (by rfl) ?_ ?_; rotate_left; (· rintro w9 u0; go_simp; (try rw [if_neg (by omega)]); all_goals (with_reducible rfl)); simp only [Act.put, List.setIfInBounds_toArray, List.set_cons_zero, List.set_cons_succ]))
    refine LTree.take_load 55 (.tmp 20) (G) _ (by rfl) rfl (by rfl) (fun w9 h9 => h9) Tryz.underlying55 rfl ev_info ?_
    simp only [Act.put, List.setIfInBounds_toArray, List.set_cons_zero, List.set_cons_succ]
    refine LTree.fork (by rfl) (by rfl) ?_ ?_
    · skip
      have K9 := K.al (.cells #[.bool false, .int .i64 (q : Int), .int .i64 (i : Int), .int .i64 (1 + (y : Int)), .int .i64 (bl : Int), .string sv, .int .i64 0, .string ⟨#[]⟩] 55 (0, 0))
      refine (Tree.wp_make (.slice (some ⟨v1.heap.size, 0, none⟩) 1 1) (v1.alloc (.cells #[.bool false, .int .i64 (q : Int), .int .i64 (i : Int), .int .i64 (1 + (y : Int)), .int .i64 (bl : Int), .string sv, .int .i64 0, .string ⟨#[]⟩] 55 (0, 0))) ?_ ⟨(K9.get 1 rfl), ?_⟩)
      · go_simp
      simp only [Act.put, List.setIfInBounds_toArray, List.set_cons_zero, List.set_cons_succ]
      clear K
      have K := K9
      clear K9
      generalize v1.heap.size = ga at *
      generalize v1.alloc (.cells #[.bool false, .int .i64 (q : Int), .int .i64 (i : Int), .int .i64 (1 + (y : Int)), .int .i64 (bl : Int), .string sv, .int .i64 0, .string ⟨#[]⟩] 55 (0, 0)) = v2 at *
      refine LTree.fork (by rfl) (by rfl) ?_ ?_
      · skip
        refine (K.app_one vrOk (.tmp 169) (.tmp 171) rfl 2 0 rfl rfl (e := ⟨false, (q : Int), (i : Int), 1 + (y : Int), (bl : Int), sv, 0, ⟨#[]⟩⟩) rfl rfl (by omega) ?_)
        intro go co v3 K9 _
        simp only [List.set] at K9
        refine ⟨(K9.get 1 rfl), ?_⟩
        simp only [Act.put, List.setIfInBounds_toArray, List.set_cons_zero, List.set_cons_succ]
        clear K
        have K := K9
        clear K9
        have K9 := K.al (.cells #[.bool false, .int .i64 (q : Int), .int .i64 (i : Int), .int .i64 (1 + (y : Int)), .int .i64 (bl : Int), .string sv, .int .i64 0, .string ⟨#[]⟩] 55 (0, 0))
        refine LTree.only (by rfl) (Tree.wp_make (.slice (some ⟨v3.heap.size, 0, none⟩) 1 1) (v3.alloc (.cells #[.bool false, .int .i64 (q : Int), .int .i64 (i : Int), .int .i64 (1 + (y : Int)), .int .i64 (bl : Int), .string sv, .int .i64 0, .string ⟨#[]⟩] 55 (0, 0))) ?_ ⟨(K9.get 2 rfl), ?_⟩)
        · go_simp
        simp only [Act.put, List.setIfInBounds_toArray, List.set_cons_zero, List.set_cons_succ]
        clear K
        have K := K9
        clear K9
        generalize v3.heap.size = gb at *
        generalize v3.alloc (.cells #[.bool false, .int .i64 (q : Int), .int .i64 (i : Int), .int .i64 (1 + (y : Int)), .int .i64 (bl : Int), .string sv, .int .i64 0, .string ⟨#[]⟩] 55 (0, 0)) = v4 at *
        refine LTree.only (by rfl) (K.app_one vrOk (.tmp 173) (.tmp 175) rfl 4 0 rfl rfl (e := ⟨false, (q : Int), (i : Int), 1 + (y : Int), (bl : Int), sv, 0, ⟨#[]⟩⟩) rfl rfl (by omega) ?_)
        intro gp cp v5 K9 _
        simp only [List.set] at K9
        refine ⟨(K9.get 2 rfl), ?_⟩
        simp only [Act.put, List.setIfInBounds_toArray, List.set_cons_zero, List.set_cons_succ]
        clear K
        have K := K9
        clear K9
        repeat (first | (refine LTree.take ?_ (by rfl) ?_ ?_; rotate_left; (· rintro w9 u0; go_simp; (try rw [if_neg (by omega)]); all_goals (with_reducible rfl)); simp only [Act.put, List.setIfInBounds_toArray, List.set_cons_zero, List.set_cons_succ]))
        refine LTree.ends ?_
        go_wp2_with fail
        have KE := K.sub [3, 4, 5, 6, 7] (T' := [Env.lst VR (Env.slv go (q0 + 1) co) (q0 + 1) (O ++ [⟨false, (q : Int), (i : Int), 1 + (y : Int), (bl : Int), sv, 0, ⟨#[]⟩⟩]), Env.lst VR (Env.slv gp (p + 1) cp) (p + 1) (P ++ [⟨false, (q : Int), (i : Int), 1 + (y : Int), (bl : Int), sv, 0, ⟨#[]⟩⟩]), dieT w.heap.size g zs k2, iseenT mb As, bT bn ba bc B]) rfl (by simp) (by simp)
        exact hQ _ _ _ _ _ _ _ _ _ _ _ _ _ _ _ _ _ _ _ _ _ _ _ _ _ _ _ _ _ _ _ _ _ _ _ _ _ _ _ _ _ _ _ _ _ _ _ _ _ _ _ _ _ _ _ _ _ _ _ _ _ _ _ _ _ _ _ _ _ _ _ _ _ _ _ _ _ _ _ _ _ _ _ _ _ _ _ _ _ _ _ _ _ _ _ _ _ _ _ _ _ _ _ _ _ _ _ _ _ _ _ _ _ _ _ _ _ _ _ _ _ _ _ _ _ _ _ _ _ _ _ _ _ _ _ _ _ _ _ _ _ _ _ _ _ _ _ _ _ _ _ _ _ _ _ _ _ k2 _ _ (by omega) (by rw [Int.natCast_add]; exact hinv.out) hO9 hP9 (by rw [hO9, hP9]; exact KE)
      · skip
        have K9 := K.al (.cells #[.bool false, .int .i64 (q : Int), .int .i64 (i : Int), .int .i64 (1 + (y : Int)), .int .i64 (bl : Int), .string sv, .int .i64 0, .string ⟨#[]⟩] 55 (0, 0))
        refine (Tree.wp_make (.slice (some ⟨v2.heap.size, 0, none⟩) 1 1) (v2.alloc (.cells #[.bool false, .int .i64 (q : Int), .int .i64 (i : Int), .int .i64 (1 + (y : Int)), .int .i64 (bl : Int), .string sv, .int .i64 0, .string ⟨#[]⟩] 55 (0, 0))) ?_ ⟨(K9.get 2 rfl), ?_⟩)
        · go_simp
        simp only [Act.put, List.setIfInBounds_toArray, List.set_cons_zero, List.set_cons_succ]
        clear K
        have K := K9
        clear K9
        generalize v2.heap.size = gb at *
        generalize v2.alloc (.cells #[.bool false, .int .i64 (q : Int), .int .i64 (i : Int), .int .i64 (1 + (y : Int)), .int .i64 (bl : Int), .string sv, .int .i64 0, .string ⟨#[]⟩] 55 (0, 0)) = v3 at *
        refine LTree.only (by rfl) (K.app_one vrOk (.tmp 169) (.tmp 171) rfl 3 1 rfl rfl (e := ⟨false, (q : Int), (i : Int), 1 + (y : Int), (bl : Int), sv, 0, ⟨#[]⟩⟩) rfl rfl (by omega) ?_)
        intro go co v4 K9 _
        simp only [List.set] at K9
        refine ⟨(K9.get 2 rfl), ?_⟩
        simp only [Act.put, List.setIfInBounds_toArray, List.set_cons_zero, List.set_cons_succ]
        clear K
        have K := K9
        clear K9
        refine LTree.only (by rfl) (K.app_one vrOk (.tmp 173) (.tmp 175) rfl 4 0 rfl rfl (e := ⟨false, (q : Int), (i : Int), 1 + (y : Int), (bl : Int), sv, 0, ⟨#[]⟩⟩) rfl rfl (by omega) ?_)
        intro gp cp v5 K9 _
        simp only [List.set] at K9
        refine ⟨(K9.get 2 rfl), ?_⟩
        simp only [Act.put, List.setIfInBounds_toArray, List.set_cons_zero, List.set_cons_succ]
        clear K
        have K := K9
        clear K9
        repeat (first | (refine LTree.take ?_ (by rfl) ?_ ?_; rotate_left; (· rintro w9 u0; go_simp; (try rw [if_neg (by omega)]); all_goals (with_reducible rfl)); simp only [Act.put, List.setIfInBounds_toArray, List.set_cons_zero, List.set_cons_succ]))
        refine LTree.ends ?_
        go_wp2_with fail
        have KE := K.sub [3, 4, 5, 6, 7] (T' := [Env.lst VR (Env.slv go (q0 + 1) co) (q0 + 1) (O ++ [⟨false, (q : Int), (i : Int), 1 + (y : Int), (bl : Int), sv, 0, ⟨#[]⟩⟩]), Env.lst VR (Env.slv gp (p + 1) cp) (p + 1) (P ++ [⟨false, (q : Int), (i : Int), 1 + (y : Int), (bl : Int), sv, 0, ⟨#[]⟩⟩]), dieT w.heap.size g zs k2, iseenT mb As, bT bn ba bc B]) rfl (by simp) (by simp)
        exact hQ _ _ _ _ _ _ _ _ _ _ _ _ _ _ _ _ _ _ _ _ _ _ _ _ _ _ _ _ _ _ _ _ _ _ _ _ _ _ _ _ _ _ _ _ _ _ _ _ _ _ _ _ _ _ _ _ _ _ _ _ _ _ _ _ _ _ _ _ _ _ _ _ _ _ _ _ _ _ _ _ _ _ _ _ _ _ _ _ _ _ _ _ _ _ _ _ _ _ _ _ _ _ _ _ _ _ _ _ _ _ _ _ _ _ _ _ _ _ _ _ _ _ _ _ _ _ _ _ _ _ _ _ _ _ _ _ _ _ _ _ _ _ _ _ _ _ _ _ _ _ _ _ _ _ _ _ _ k2 _ _ (by omega) (by rw [Int.natCast_add]; exact hinv.out) hO9 hP9 (by rw [hO9, hP9]; exact KE)
    · skip
      have K9 := K.al (.cells #[.bool false, .int .i64 (q : Int), .int .i64 (i : Int), .int .i64 (1 + (y : Int)), .int .i64 (bl : Int), .string sv, .int .i64 0, .string ⟨#[]⟩] 55 (0, 0))
      refine (Tree.wp_make (.slice (some ⟨v1.heap.size, 0, none⟩) 1 1) (v1.alloc (.cells #[.bool false, .int .i64 (q : Int), .int .i64 (i : Int), .int .i64 (1 + (y : Int)), .int .i64 (bl : Int), .string sv, .int .i64 0, .string ⟨#[]⟩] 55 (0, 0))) ?_ ⟨(K9.get 1 rfl), ?_⟩)
      · go_simp
      simp only [Act.put, List.setIfInBounds_toArray, List.set_cons_zero, List.set_cons_succ]
      clear K
      have K := K9
      clear K9
      generalize v1.heap.size = gb at *
      generalize v1.alloc (.cells #[.bool false, .int .i64 (q : Int), .int .i64 (i : Int), .int .i64 (1 + (y : Int)), .int .i64 (bl : Int), .string sv, .int .i64 0, .string ⟨#[]⟩] 55 (0, 0)) = v2 at *
      have K9 := K.al (.cells #[.bool false, .int .i64 (q : Int), .int .i64 (i : Int), .int .i64 (1 + (y : Int)), .int .i64 (bl : Int), .string sv, .int .i64 0, .string ⟨#[]⟩] 55 (0, 0))
      refine LTree.only (by rfl) (Tree.wp_make (.slice (some ⟨v2.heap.size, 0, none⟩) 1 1) (v2.alloc (.cells #[.bool false, .int .i64 (q : Int), .int .i64 (i : Int), .int .i64 (1 + (y : Int)), .int .i64 (bl : Int), .string sv, .int .i64 0, .string ⟨#[]⟩] 55 (0, 0))) ?_ ⟨(K9.get 2 rfl), ?_⟩)
      · go_simp
      simp only [Act.put, List.setIfInBounds_toArray, List.set_cons_zero, List.set_cons_succ]
      clear K
      have K := K9
      clear K9
      generalize v2.heap.size = ga at *
      generalize v2.alloc (.cells #[.bool false, .int .i64 (q : Int), .int .i64 (i : Int), .int .i64 (1 + (y : Int)), .int .i64 (bl : Int), .string sv, .int .i64 0, .string ⟨#[]⟩] 55 (0, 0)) = v3 at *
      refine LTree.only (by rfl) (K.app_one vrOk (.tmp 169) (.tmp 171) rfl 3 0 rfl rfl (e := ⟨false, (q : Int), (i : Int), 1 + (y : Int), (bl : Int), sv, 0, ⟨#[]⟩⟩) rfl rfl (by omega) ?_)
      intro go co v4 K9 _
      simp only [List.set] at K9
      refine ⟨(K9.get 2 rfl), ?_⟩
      simp only [Act.put, List.setIfInBounds_toArray, List.set_cons_zero, List.set_cons_succ]
      clear K
      have K := K9
      clear K9
      refine LTree.only (by rfl) (K.app_one vrOk (.tmp 173) (.tmp 175) rfl 4 1 rfl rfl (e := ⟨false, (q : Int), (i : Int), 1 + (y : Int), (bl : Int), sv, 0, ⟨#[]⟩⟩) rfl rfl (by omega) ?_)
      intro gp cp v5 K9 _
      simp only [List.set] at K9
      refine ⟨(K9.get 2 rfl), ?_⟩
      simp only [Act.put, List.setIfInBounds_toArray, List.set_cons_zero, List.set_cons_succ]
      clear K
      have K := K9
      clear K9
      repeat (first | (refine LTree.take ?_ (by rfl) ?_ ?_; rotate_left; (· rintro w9 u0; go_simp; (try rw [if_neg (by omega)]); all_goals (with_reducible rfl)); simp only [Act.put, List.setIfInBounds_toArray, List.set_cons_zero, List.set_cons_succ]))
      refine LTree.ends ?_
      go_wp2_with fail
      have KE := K.sub [3, 4, 5, 6, 7] (T' := [Env.lst VR (Env.slv go (q0 + 1) co) (q0 + 1) (O ++ [⟨false, (q : Int), (i : Int), 1 + (y : Int), (bl : Int), sv, 0, ⟨#[]⟩⟩]), Env.lst VR (Env.slv gp (p + 1) cp) (p + 1) (P ++ [⟨false, (q : Int), (i : Int), 1 + (y : Int), (bl : Int), sv, 0, ⟨#[]⟩⟩]), dieT w.heap.size g zs k2, iseenT mb As, bT bn ba bc B]) rfl (by simp) (by simp)
      exact hQ _ _ _ _ _ _ _ _ _ _ _ _ _ _ _ _ _ _ _ _ _ _ _ _ _ _ _ _ _ _ _ _ _ _ _ _ _ _ _ _ _ _ _ _ _ _ _ _ _ _ _ _ _ _ _ _ _ _ _ _ _ _ _ _ _ _ _ _ _ _ _ _ _ _ _ _ _ _ _ _ _ _ _ _ _ _ _ _ _ _ _ _ _ _ _ _ _ _ _ _ _ _ _ _ _ _ _ _ _ _ _ _ _ _ _ _ _ _ _ _ _ _ _ _ _ _ _ _ _ _ _ _ _ _ _ _ _ _ _ _ _ _ _ _ _ _ _ _ _ _ _ _ _ _ _ _ _ k2 _ _ (by omega) (by rw [Int.natCast_add]; exact hinv.out) hO9 hP9 (by rw [hO9, hP9]; exact KE)
end Go.Proofs.YtnmhnjjehglcfaaGreat.Ents

/- A part of the walk of the laws' histories: an operation happens. -/
namespace Go.Proofs.YtnmhnjjehglcfaaGreat.Ents
open Go.RowKit Plan HisMath LinMath ModMath Rws Env LayMath
set_option maxHeartbeats 8000000 in
set_option maxRecDepth 20000 in
theorem app_part (w w9 : World) (bn m0 : Nat) (wrong : Bool) (g mb : Nat) (zs : List Int) (ov pv : Option Addr) (q0 oc p pc i k9 ik : Nat) (O P : List Ev) (As : List Int) (B : List ByteArray) (ba : Option Addr) (bc : Nat) (e : Ev) (u0 u1 u2 u3 u4 u5 u6 u7 u8 u11 u14 u16 u17 u18 u19 u20 u21 u22 u23 u24 u25 u26 u27 u28 u29 u30 u31 u32 u33 u34 u35 u36 u37 u38 u39 u40 u41 u42 u43 u44 u45 u46 u47 u48 u49 u50 u51 u52 u53 u54 u55 u56 u57 u58 u59 u60 u61 u62 u63 u64 u65 u66 u67 u68 u69 u70 u71 u72 u73 u74 u75 u76 u77 u78 u79 u80 u81 u82 u83 u84 u85 u86 u87 u88 u89 u90 u91 u92 u93 u94 u95 u96 u98 u99 u100 u101 u102 u103 u104 u105 u106 u107 u108 u109 u110 u111 u112 u113 u114 u115 u116 u117 u118 u119 u120 u121 u122 u123 u124 u125 u126 u127 u128 u129 u130 u131 u132 u133 u134 u135 u136 u137 u138 u139 u140 u141 u142 u143 u144 u145 u146 u147 u148 u149 u150 u151 u152 u153 u154 u155 u156 u157 u158 u159 u160 u161 u162 u163 u164 u165 u166 u167 u168 u169 u170 u171 u172 u173 u174 u175 u176 u177 : Value)
    (hp : P.length = p) (hN : 0 < bn) (h3 : bn ≤ 3)
    (HM : RowKit.Hid (LMade bn (2 * m0) wrong O P (asB As) B (i : Int))) (he : P[ik]? = some e) (hA : ¬ e.serial ∈ As)
    (K : Env w w9 [Env.lst VR (.slice ov q0 oc) q0 O, Env.lst VR (.slice pv p pc) p P, dieT w.heap.size g zs k9, iseenT mb As, bT bn ba bc B])
    (Q : Exit → Act → World → Prop)
    (hQ : ∀ (v17 v18 v19 v20 v26 v27 v28 v29 v30 v31 v32 v33 v34 v35 v36 v37 v38 v39 v40 v41 v42 v43 v44 v45 v46 v47 v48 v49 v50 v51 v52 v53 v54 v55 v56 v57 v58 v59 v60 v61 v62 v63 v64 v65 v66 v67 v68 v69 v70 v71 v72 v73 v74 v75 v76 v77 v78 v79 v80 v81 v82 v83 v84 v85 v86 v87 v88 v89 v90 v91 v92 v93 v94 v95 v96 v98 v99 v100 v101 v102 v103 v104 v105 v106 v107 v108 v109 v110 v111 v112 v113 v114 v115 v116 v117 v118 v119 v120 v121 v122 v123 v124 v125 v126 v127 v128 v129 v130 v131 v132 v133 v134 v135 v136 v137 v138 v139 v140 v141 v142 v143 v144 v145 v146 v147 v148 v149 v150 v151 v152 v153 v154 v155 v156 v157 v158 v159 v160 v161 v162 v163 v164 v165 v166 v167 v168 v169 v170 v171 v172 v173 v174 v175 v176 : Value) (w' : World) (ba2 : Option Addr) (bc2 : Nat) (P' : List Ev) (As' : List Int) (B' : List ByteArray), LMade bn (2 * m0) wrong O P' (asB As') B' ((i + 1 : Nat) : Int) → P'.length = p → Env w w' [Env.lst VR (.slice ov q0 oc) q0 O, Env.lst VR (.slice pv p pc) p P', dieT w.heap.size g zs k9, iseenT mb As', bT bn ba2 bc2 B'] → Q .normal { tmps := #[u0, u1, u2, u3, u4, u5, u6, u7, u8, .pointer (some ⟨g, 0, none⟩), .slice ba2 bn bc2, u11, .slice pv p pc, .map (some mb), u14, .int .i64 (ik : Int), u16, v17, v18, v19, v20, u21, u22, u23, u24, u25, v26, v27, v28, v29, v30, v31, v32, v33, v34, v35, v36, v37, v38, v39, v40, v41, v42, v43, v44, v45, v46, v47, v48, v49, v50, v51, v52, v53, v54, v55, v56, v57, v58, v59, v60, v61, v62, v63, v64, v65, v66, v67, v68, v69, v70, v71, v72, v73, v74, v75, v76, v77, v78, v79, v80, v81, v82, v83, v84, v85, v86, v87, v88, v89, v90, v91, v92, v93, v94, v95, v96, .bool true, v98, v99, v100, v101, v102, v103, v104, v105, v106, v107, v108, v109, v110, v111, v112, v113, v114, v115, v116, v117, v118, v119, v120, v121, v122, v123, v124, v125, v126, v127, v128, v129, v130, v131, v132, v133, v134, v135, v136, v137, v138, v139, v140, v141, v142, v143, v144, v145, v146, v147, v148, v149, v150, v151, v152, v153, v154, v155, v156, v157, v158, v159, v160, v161, v162, v163, v164, v165, v166, v167, v168, v169, v170, v171, v172, v173, v174, v175, v176, u177], defers := [] } w') :
    (Part.test Tryz.f15 97).wp Tryz.prog Q { tmps := #[u0, u1, u2, u3, u4, u5, u6, u7, u8, .pointer (some ⟨g, 0, none⟩), .slice ba bn bc, u11, .slice pv p pc, .map (some mb), u14, .int .i64 (ik : Int), u16, u17, u18, u19, u20, u21, u22, u23, u24, u25, u26, u27, u28, u29, u30, u31, u32, u33, u34, u35, u36, u37, u38, u39, u40, u41, u42, u43, u44, u45, u46, u47, u48, u49, u50, u51, u52, u53, u54, u55, u56, u57, u58, u59, u60, u61, u62, u63, u64, u65, u66, u67, u68, u69, u70, u71, u72, u73, u74, u75, u76, u77, u78, u79, u80, u81, u82, u83, u84, u85, u86, u87, u88, u89, u90, u91, u92, u93, u94, u95, u96, .bool true, u98, u99, u100, u101, u102, u103, u104, u105, u106, u107, u108, u109, u110, u111, u112, u113, u114, u115, u116, u117, u118, u119, u120, u121, u122, u123, u124, u125, u126, u127, u128, u129, u130, u131, u132, u133, u134, u135, u136, u137, u138, u139, u140, u141, u142, u143, u144, u145, u146, u147, u148, u149, u150, u151, u152, u153, u154, u155, u156, u157, u158, u159, u160, u161, u162, u163, u164, u165, u166, u167, u168, u169, u170, u171, u172, u173, u174, u175, u176, u177], defers := [] } w9 := by
  let Q' : Exit → Act → World → Prop := bodyPost Tryz.prog Tryz.f15 fun _ _ => True
  conv => arg 2; whnf
  have hikp : ik < p := by have := (List.getElem?_eq_some_iff.1 he).1; omega
  have hp0 : 0 < p := by omega
  obtain ⟨pg, pc9, hpe⟩ := K.val vrOk 1 rfl hp0
  obtain ⟨rfl, -, rfl⟩ : pv = some ⟨pg, 0, none⟩ ∧ p = p ∧ pc = pc9 := by cases hpe; exact ⟨rfl, rfl, rfl⟩
  clear hpe
  have HNX := Lib.hid (HM.out.apply he (show asB As e.serial = false from decide_eq_false hA))
  have hikI : (ik : Int) < (p : Int) := by omega
  have hikc : ik ≤ pc := by have h9 := (K.list vrOk 1 rfl).cap; omega
  have HAP := Lib.hid (fun W F (h : SList W F ba bn bc B) => refApply_any F B ba bn bc e.kind e.block e.data W h (by omega))
  unfold APost at HAP
  have hall := apply_len B (cmdOf e)
  change RowKit.Hid (LMade bn (2 * m0) wrong O (P.set ik { e with err := (applyR B (cmdOf e)).err, res := (applyR B (cmdOf e)).data }) _ (applyB B (cmdOf e)) (i : Int)) at HNX
  have hcm : (⟨e.kind, e.block, e.data⟩ : Cmd) = cmdOf e := rfl
  rw [hcm] at HAP
  generalize applyB B (cmdOf e) = BA at *
  generalize applyR B (cmdOf e) = Z at *
  obtain ⟨ze, zd⟩ := Z
  simp only [resV] at HAP
  simp only at HNX
  have lb := bt_list K 4 rfl
  have hc := fun f u (hu : (VR.c e)[f]? = some u) => (K.ownF vrOk 1 rfl (k := ik) (f := f) he hu).1
  have z3 := hc 3 _ rfl
  have z4 := hc 4 _ rfl
  have z5 := hc 5 _ rfl
  simp only [show VR.sz = 8 from rfl] at z3 z4 z5
  have y4 : w9.cell? ⟨pg, ik * 8 + 3 + 1, none⟩ = some (.int .i64 e.block) := z4
  have y5 : w9.cell? ⟨pg, ik * 8 + 3 + 2, none⟩ = some (.string e.data) := z5
  have hcall := Lib.hid (HAP.out w9 _ lb)
  clear hc
  go_upto_region 20 with (first
    | (go_at_call 30; ((with_reducible refine (hcall.out).mono ?_); rintro r9 w1 ⟨ba2, bn2, bc2, rfl, hx, hb⟩; have h1 := hx.length; have h2 := lb.length; obtain rfl : bn = bn2 := (by omega); clear h1 h2; have K1 := bt_next K 4 rfl hN hb hx; simp only [List.set] at K1; have K2 := K1.al (.cells #[.int .i64 ze, .string zd] 53); clear z3 z4 z5 y4 y5 hb hx lb K K1)))
  have hc := fun f u (hu : (VR.c e)[f]? = some u) => (K2.ownF vrOk 2 rfl (k := ik) (f := f) he hu)
  obtain ⟨z2, -⟩ := hc 2 _ rfl
  obtain ⟨z6, f6⟩ := hc 6 _ rfl
  obtain ⟨z7, f7⟩ := hc 7 _ rfl
  simp only [show VR.sz = 8 from rfl] at z2 z6 f6 z7 f7
  clear hc
  obtain ⟨er, eq, es, ek, eb, ed, ee, ex⟩ := e
  simp only at z2 z6 z7 hA HNX
  have hep : ({ ret := er, queue := eq, serial := es, kind := ek, block := eb, data := ed, err := ze, res := ex } : Ev) = { ret := er, queue := eq, serial := es, kind := ek, block := eb, data := ed, err := ze, res := ex } := rfl
  have K3 := (K2.setF vrOk 2 rfl (f := 6) (⟨er, eq, es, ek, eb, ed, ze, ex⟩ : Ev) he (by show 6 < 8; decide) (u := .int .i64 ze) rfl).1
  simp only [List.set] at K3
  have he2 : (P.set ik (⟨er, eq, es, ek, eb, ed, ze, ex⟩ : Ev))[ik]? = some ⟨er, eq, es, ek, eb, ed, ze, ex⟩ := by rw [List.getElem?_set_self (by omega)]
  have K4 := (K3.setF vrOk 2 rfl (f := 7) (⟨er, eq, es, ek, eb, ed, ze, zd⟩ : Ev) he2 (by show 7 < 8; decide) (u := .string zd) rfl).1
  simp only [List.set, List.set_set] at K4
  simp only [show VR.sz = 8 from rfl] at K4
  clear K3 he2 hep
  have he4 : (P.set ik (⟨er, eq, es, ek, eb, ed, ze, zd⟩ : Ev))[ik]? = some ⟨er, eq, es, ek, eb, ed, ze, zd⟩ := by rw [List.getElem?_set_self (by omega)]
  have hs4 := (K4.ownF vrOk 2 rfl (k := ik) (f := 2) he4 rfl).1
  simp only [show VR.sz = 8 from rfl] at hs4
  have f7' : (w1.alloc (.cells #[.int .i64 ze, .string zd] 53)).frozen? ⟨pg, ik * 8 + 6 + 1, none⟩ = false := f7
  have z7' : (w1.alloc (.cells #[.int .i64 ze, .string zd] 53)).cell? ⟨pg, ik * 8 + 6 + 1, none⟩ = some (.string ex) := z7
  go_upto_region 21 with (first
    | ((with_reducible refine Plan.load_lit 53 (.tmp 19) (w1.heap.size) ?_ (K2.get 0 rfl) Tryz.underlying53 ?_ ?_ ?_); (· rfl); (· rfl); (· exact res_info); simp only [Act.put, List.setIfInBounds_toArray, List.set_cons_zero, List.set_cons_succ]))
  obtain ⟨W', hup, K5, _⟩ := env_iput K4 4 rfl hA
  simp only [List.set] at K5
  go_wp2_with fail
  have hP9 : (P.set ik (⟨er, eq, es, ek, eb, ed, ze, zd⟩ : Ev)).length = p := by rw [List.length_set, hp]
  exact hQ _ _ _ _ _ _ _ _ _ _ _ _ _ _ _ _ _ _ _ _ _ _ _ _ _ _ _ _ _ _ _ _ _ _ _ _ _ _ _ _ _ _ _ _ _ _ _ _ _ _ _ _ _ _ _ _ _ _ _ _ _ _ _ _ _ _ _ _ _ _ _ _ _ _ _ _ _ _ _ _ _ _ _ _ _ _ _ _ _ _ _ _ _ _ _ _ _ _ _ _ _ _ _ _ _ _ _ _ _ _ _ _ _ _ _ _ _ _ _ _ _ _ _ _ _ _ _ _ _ _ _ _ _ _ _ _ _ _ _ _ _ _ _ _ _ _ _ _ _ _ _ _ _ _ _ _ _ _ _ _ (by rw [asB_cons, Int.natCast_add]; exact HNX.out.mono (by omega)) hP9 K5.tail
end Go.Proofs.YtnmhnjjehglcfaaGreat.Ents

/- The walk of the histories that the laws of layer 19 make. -/
namespace Go.Proofs.YtnmhnjjehglcfaaGreat.Ents
open Go.RowKit Plan HisMath LinMath ModMath Rws Env LayMath
theorem lmade_post {n m : Nat} {wrong : Bool} {w w' : World} {v : Value} {X P : List Ev} {A : Int → Bool} {B : List ByteArray} {s : Int} {k : Nat} (ho : w'.ownsRow w.heap.size VR.et VR.sz v k (VR.all X)) (hb : Below w.heap.size w w') (h : LMade n m wrong X P A B s) : LMadePost n m wrong w (.returned v) w' := by
  obtain ⟨a9, c9, e9, l9⟩ := owns_list (F := fun b => w.heap.size ≤ b) vrOk ho (fun b h9 => (ho.lt b h9).1)
  subst e9
  exact ⟨_, _, _, _, rfl, l9, hb, P, A, B, s, h⟩
/-- where the maker stands -/
structure MSt (w wr : World) (N m : Nat) (wrong : Bool) (g mb : Nat) (zs : List Int) (o p : Value) (ba : Option Addr) (bc i k : Nat) (O P : List Ev) (As : List Int) (B : List ByteArray) : Prop where
  M : LMade N m wrong O P (asB As) B (i : Int)
  few : P.length ≤ 5
  K : Env w wr [Env.lst VR o O.length O, Env.lst VR p P.length P, dieT w.heap.size g zs k, iseenT mb As, bT N ba bc B]
theorem mst_of {w wr : World} {N m : Nat} {wrong : Bool} {g mb : Nat} {zs : List Int} {o p : Value} {ba : Option Addr} {bc i k : Nat} {O P : List Ev} {As : List Int} {B : List ByteArray} {no np : Nat} (hO : O.length = no) (hP : P.length = np) (M : LMade N m wrong O P (asB As) B (i : Int)) (hf : np ≤ 5)
    (K : Env w wr [Env.lst VR o no O, Env.lst VR p np P, dieT w.heap.size g zs k, iseenT mb As, bT N ba bc B]) : MSt w wr N m wrong g mb zs o p ba bc i k O P As B := by
  subst hO
  subst hP
  exact ⟨M, hf, K⟩
set_option maxHeartbeats 8000000 in
set_option maxRecDepth 20000 in
theorem linMade_any (N m0 : Nat) (wrong : Bool) (a : Option Addr) (n c : Nat) (Z : List Int) (w : World) (hz : IsRow .i64 w a n c Z) (hm : n ≤ 300) (h1 : 1 ≤ N) (h3 : N ≤ 3) (hm0 : m0 ≤ 12) :
    Calls Tryz.prog 15 #[.slice a n c, .int .i64 (N : Int), .int .i64 (m0 : Int), .bool wrong] w (LMadePost N (2 * m0) wrong w) := by
  have HR := Lib.hid (roll_any a n c Z w hz hm)
  unfold RollPost at HR
  have hzl : (Z.take n).length ≤ 100000 := by rw [List.length_take]; omega
  have HNB := Lib.hid (fun W => refBNew_any (N : Int) W)
  unfold SPost at HNB
  have K := Env.start w
  have hmm := fun W => (show (Instr.makeMap 75 none).run Tryz.prog W = .ok (.map (some W.heap.size)) (W.alloc (.map #[] 0)) from rfl)
  generalize Z.take n = zs at *
  clear hz
  go_enter Tryz.func15, Tryz.ntmps15
  go_wp2_with (first
    | (go_at_call 26; ((with_reducible refine (HR.out).mono ?_); rintro r9 w1 ⟨g, rfl, hd, hb⟩; replace K := (K.roll hd hb).1; clear hd hb))
    | (go_at_call 16; ((with_reducible refine (HNB.out _).mono ?_); rintro r9 w2 ⟨ba, bn, bc, rfl, hx, hb⟩; have lb := TList.result (F := fun _ => False) K hb (hx.mono fun b _ h => .inr (h.resolve_left id)); clear hx; replace K := K.on hb; clear hb)))
  clear HR HNB
  have hbn : bn = N := by have h := lb.length; rw [newB_is h1 (by omega), List.length_replicate] at h; exact h.symm
  subst hbn
  have K1 := env_imap K
  have hbh := bt_holds (B0 := w.heap.size) (lb.keep (keep_imap K)) (by omega) (fun b h => h.1.resolve_left id)
  have hap : ∀ x ∈ [iseenT w2.heap.size [], dieT w.heap.size g zs 0], Env.Apart (bT bn ba bc (newB (bn : Int))) x := fun x hx b h1' h2' => by
    obtain ⟨y, rfl, rfl⟩ := h1'
    obtain ⟨z, hz, _, hq, _⟩ := (lb.keep (keep_imap (F := fun _ => False) K)).some' (by omega)
    obtain rfl := Option.some.inj hz
    exact hq.2.2 x hx h2'
  have K2 : Env w (w2.alloc (.map #[] 0)) (bT bn ba bc (newB (bn : Int)) :: iseenT w2.heap.size [] :: dieT w.heap.size g zs 0 :: []) := Env.of (fun x hx => by
    rcases List.mem_cons.1 hx with rfl | hx
    · exact hbh
    · exact K1.hold x hx) (List.pairwise_cons.2 ⟨hap, K1.apart⟩) K1.hb
  clear K hmm K1 hbh hap lb
  generalize hG : w2.heap.size = mb at *
  generalize w2.alloc (.map #[] 0) = w3 at *
  clear hG
  have K3 := ((K2.nil VR).nil VR)
  have VS : MSt w w3 bn (2 * m0) wrong g mb zs (.slice none 0 0) (.slice none 0 0) ba bc 0 0 [] [] [] (newB (bn : Int)) := ⟨LMade.start (2 * m0) wrong h1 (by omega), Nat.zero_le _, K3.sub [0, 1, 4, 3, 2] rfl (by simp) (by simp)⟩
  clear K2 K3
  go_loopw [10, 11, 12, 14] (fun b o p x wr => ∃ (i k : Nat) (O P : List Ev) (As : List Int) (B : List ByteArray) (ba : Option Addr) (bc : Nat), x = .int .i64 (i : Int) ∧ i ≤ 3 * m0 ∧ k ≤ 8 * i ∧ b = .slice ba bn bc ∧ MSt w wr bn (2 * m0) wrong g mb zs o p ba bc i k O P As B) (fun _ _ _ x _ => 3 * m0 - (intOf x).toNat)
  case atStart => exact ⟨0, 0, [], [], [], _, ba, bc, rfl, by omega, by omega, rfl, VS⟩
  case round =>
    clear VS
    obtain ⟨i, k, O, P, As, B, ba, bc, rfl, hi, hk, rfl, VS⟩ := hrel
    obtain ⟨M, hfew, K⟩ := VS
    have HD := Lib.hid (fun W (h : Dice W w.heap.size g zs k) => rest_dice W w.heap.size g zs k h hzl (by omega))
    have HM := Lib.hid M
    clear M
    obtain ⟨ov, oc, rfl⟩ : ∃ a c, u11 = .slice a O.length c := by
      obtain ⟨a, c, e, _⟩ := K.any vrOk 0 rfl
      exact ⟨a, c, e⟩
    obtain ⟨pv, pc, rfl⟩ : ∃ a c, u12 = .slice a P.length c := by
      obtain ⟨a, c, e, _⟩ := K.any vrOk 1 rfl
      exact ⟨a, c, e⟩
    have hml : IntKind.i64.wrap (3 * (m0 : Int)) = 3 * (m0 : Int) := kwrap_mul 3 m0 (by decide) (by omega)
    have hmw : wrap64 (3 * (m0 : Int)) = 3 * (m0 : Int) := wrap_mul 3 m0 (by decide) (by omega)
    by_cases hgo : k < zs.length ∧ i < 3 * m0
    · obtain ⟨hk2, hi2⟩ := hgo
      have hM : 0 < max (0 : Int) ((zs.length : Int) - (k : Int)) := by rw [Int.max_eq_right (by omega)]; omega
      generalize max (0 : Int) ((zs.length : Int) - (k : Int)) = M at *
      have hiI : (i : Int) < 3 * (m0 : Int) := by omega
      have t5 : decide ((i : Int) < 3 * (m0 : Int)) = true := decide_eq_true hiI
      obtain ⟨p, hp⟩ : ∃ p, P.length = p := ⟨_, rfl⟩
      obtain ⟨q0, hq0⟩ : ∃ p, O.length = p := ⟨_, rfl⟩
      rw [hp] at K hfew ⊢
      rw [hq0] at K ⊢
      have hqb : q0 ≤ 29 := by have h9 := HM.out.ops.2; omega
      have m1 : True := trivial
      have m2 : True := trivial
      have hmx : (1 : Int) ≤ max 1 (p : Int) := by omega
      have hnx1 : (1 : Int) ≤ (if (1 : Int) < (p : Int) then (p : Int) else 1) := by split <;> omega
      have hnx2 : (if (1 : Int) < (p : Int) then (p : Int) else 1) ≤ 4611686018427387904 := by split <;> omega
      go_upto_region 10 with (first
        | (go_at_call 27; ((with_reducible refine (HD.out _ (K.die 2 rfl)).mono ?_); rintro r9 w5 ⟨rfl, rfl⟩; replace K := K.drew))
        | (have z9 := m1; clear z9; go_at_call 28; ((with_reducible refine (K.next 2 rfl hzl _ (by first | assumption | decide | omega) (by first | assumption | decide | omega)).mono ?_); rintro r9 w9 ⟨ik, k9, rfl, hik, hk9, K9, -⟩; simp only [List.set] at K9; clear K m1; have K := K9; clear K9))
        | (have z9 := m2; clear z9; go_at_call 28; ((with_reducible refine (K.next 2 rfl hzl _ (by first | assumption | decide | omega) (by first | assumption | decide | omega)).mono ?_); rintro r9 w9 ⟨act, k9, rfl, hact, hk9, K9, -⟩; simp only [List.set] at K9; clear K m2; have K := K9; clear K9)))
      have hik0 : p = 0 ∨ ik < p := by omega
      clear hmx hik hml hmw t5
      clear hnx1 hnx2
      generalize (if (1 : Int) < (p : Int) then (p : Int) else 1) = mx at *
      generalize w9.heap.size = G9 at *
      go_cut [44] (fun s wx => ∃ b1 : Bool, s = .bool b1 ∧ w9 = wx ∧ RowKit.Hid (b1 = true → ∃ e, P[ik]? = some e ∧ e.serial ∈ As))
      case first =>
        by_cases ha : act = 0
        · have d1 : ((act : Int) == 0) = true := by simp [ha]
          clear ha
          by_cases hp0 : 0 < p
          · have q1 : decide (0 < p) = true := decide_eq_true hp0
            have q2 : (0 : Int) < (p : Int) := by omega
            obtain ⟨pg, pc9, hpe⟩ := K.val vrOk 1 rfl hp0
            obtain ⟨rfl, -, rfl⟩ : pv = some ⟨pg, 0, none⟩ ∧ p = p ∧ pc = pc9 := by cases hpe; exact ⟨rfl, rfl, rfl⟩
            clear hpe
            obtain ⟨e, he⟩ : ∃ e, P[ik]? = some e := ⟨_, List.getElem?_eq_getElem (by omega)⟩
            have hc := (K.ownF vrOk 1 rfl (k := ik) (f := 2) he (u := .int .i64 e.serial) rfl).1
            simp only [show VR.sz = 8 from rfl] at hc
            have hikI : (ik : Int) < (p : Int) := by omega
            have hikc : ik ≤ pc := by have h9 := (K.list vrOk 1 rfl).cap; omega
            have hlk := iseen_look (env_iseen K 3 rfl) e.serial
            go_wp2_with fail
            go_meet
            exact ⟨_, rfl, rfl, Lib.hid (fun h => ⟨e, he, by simpa using h⟩)⟩
          · have q1 : decide (0 < p) = false := decide_eq_false hp0
            have q2 : ¬ (0 : Int) < (p : Int) := by omega
            go_wp2_with fail
            go_meet
            exact ⟨false, rfl, rfl, Lib.hid (fun h => by cases h)⟩
        · have d1 : ((act : Int) == 0) = false := by simp; omega
          have d2 : ¬ (act : Int) = 0 := by omega
          go_wp2_with fail
          go_meet
          exact ⟨false, rfl, rfl, Lib.hid (fun h => by cases h)⟩
      case rest =>
        obtain ⟨b1, rfl, rfl, hb1⟩ := hcut
        cases b1 with
        | true =>
          obtain ⟨e, he, hA⟩ := hb1.out rfl
          go_upto_if 44 with fail
          refine Part.use (by kernel_rfl) (ret_part w w9 bn m0 wrong g mb zs ov pv q0 oc p pc i k k9 ik O P As B ba bc e _ _ _ _ _ _ _ _ _ _ _ _ _ _ _ _ _ _ _ _ _ _ _ _ _ _ _ _ _ _ _ _ _ _ _ _ _ _ _ _ _ _ _ _ _ _ _ _ _ _ _ _ _ _ _ _ _ _ _ _ _ _ _ _ _ _ _ _ _ _ _ _ _ _ _ _ _ _ _ _ _ _ _ _ _ _ _ _ _ _ _ _ _ _ _ _ _ _ _ _ _ _ _ _ _ _ _ _ _ _ _ _ _ _ _ _ _ _ _ _ _ _ _ _ _ _ _ _ _ _ _ _ _ _ _ _ _ _ _ _ _ _ _ _ _ _ _ _ _ _ _ _ _ _ _ _ _ _ _ _ _ _ _ _ _ _ _ _ _ _ _ hzl (by omega) hk hfew hq0 hp hqb HM he hA K _ ?_)
          intro v11 v12 v17 v18 v19 v20 v26 v27 v28 v29 v30 v31 v32 v33 v34 v35 v36 v37 v38 v39 v40 v41 v42 v43 v45 v46 v47 v48 v49 v50 v51 v52 v53 v54 v55 v56 v57 v58 v59 v60 v61 v62 v63 v64 v65 v66 v67 v68 v69 v70 v71 v72 v73 v74 v75 v76 v77 v78 v79 v80 v81 v82 v83 v84 v85 v86 v87 v88 v89 v90 v91 v92 v93 v94 v95 v96 v97 v98 v99 v100 v101 v102 v103 v104 v105 v106 v107 v108 v109 v110 v111 v112 v113 v114 v115 v116 v117 v118 v119 v120 v121 v122 v123 v124 v125 v126 v127 v128 v129 v130 v131 v132 v133 v134 v135 v136 v137 v138 v139 v140 v141 v142 v143 v144 v145 v146 v147 v148 v149 v150 v151 v152 v153 v154 v155 v156 v157 v158 v159 v160 v161 v162 v163 v164 v165 v166 v167 v168 v169 v170 v171 v172 v173 v174 v175 v176 w' k2 O2 P2 hk2' M2 hO2 hP2 K2
          go_wp2_with fail
          go_roundw
          case rel => exact ⟨i + 1, k2, O2, P2, As, B, ba, bc, by go_num, by omega, hk2', rfl, ⟨M2, hP2, K2⟩⟩
          case measure => simp [intOf]; omega
        | false =>
          clear hb1
          go_upto_region 17 with fail
          go_cut [97] (fun s wx => ∃ b1 : Bool, s = .bool b1 ∧ w9 = wx ∧ RowKit.Hid (b1 = true → ∃ e, P[ik]? = some e ∧ ¬ e.serial ∈ As))
          case first =>
            by_cases ha : act = 1
            · have d1 : ((act : Int) == 1) = true := by simp [ha]
              clear ha
              by_cases hp0 : 0 < p
              · have q1 : decide (0 < p) = true := decide_eq_true hp0
                have q2 : (0 : Int) < (p : Int) := by omega
                obtain ⟨pg, pc9, hpe⟩ := K.val vrOk 1 rfl hp0
                obtain ⟨rfl, -, rfl⟩ : pv = some ⟨pg, 0, none⟩ ∧ p = p ∧ pc = pc9 := by cases hpe; exact ⟨rfl, rfl, rfl⟩
                clear hpe
                obtain ⟨e, he⟩ : ∃ e, P[ik]? = some e := ⟨_, List.getElem?_eq_getElem (by omega)⟩
                have hc := (K.ownF vrOk 1 rfl (k := ik) (f := 2) he (u := .int .i64 e.serial) rfl).1
                simp only [show VR.sz = 8 from rfl] at hc
                have hikI : (ik : Int) < (p : Int) := by omega
                have hikc : ik ≤ pc := by have h9 := (K.list vrOk 1 rfl).cap; omega
                have hlk := iseen_look (env_iseen K 3 rfl) e.serial
                go_wp2_with fail
                go_meet
                exact ⟨_, rfl, rfl, Lib.hid (fun h => ⟨e, he, by simpa using h⟩)⟩
              · have q1 : decide (0 < p) = false := decide_eq_false hp0
                have q2 : ¬ (0 : Int) < (p : Int) := by omega
                go_wp2_with fail
                go_meet
                exact ⟨false, rfl, rfl, Lib.hid (fun h => by cases h)⟩
            · have d1 : ((act : Int) == 1) = false := by simp; omega
              have d2 : ¬ (act : Int) = 1 := by omega
              go_wp2_with fail
              go_meet
              exact ⟨false, rfl, rfl, Lib.hid (fun h => by cases h)⟩
          case rest =>
            obtain ⟨b1, rfl, rfl, hb1⟩ := hcut
            cases b1 with
            | true =>
              obtain ⟨e, he, hA⟩ := hb1.out rfl
              go_upto_if 97 with fail
              refine Part.use (by kernel_rfl) (app_part w w9 bn m0 wrong g mb zs ov pv q0 oc p pc i k9 ik O P As B ba bc e _ _ _ _ _ _ _ _ _ _ _ _ _ _ _ _ _ _ _ _ _ _ _ _ _ _ _ _ _ _ _ _ _ _ _ _ _ _ _ _ _ _ _ _ _ _ _ _ _ _ _ _ _ _ _ _ _ _ _ _ _ _ _ _ _ _ _ _ _ _ _ _ _ _ _ _ _ _ _ _ _ _ _ _ _ _ _ _ _ _ _ _ _ _ _ _ _ _ _ _ _ _ _ _ _ _ _ _ _ _ _ _ _ _ _ _ _ _ _ _ _ _ _ _ _ _ _ _ _ _ _ _ _ _ _ _ _ _ _ _ _ _ _ _ _ _ _ _ _ _ _ _ _ _ _ _ _ _ _ _ _ _ _ _ _ _ _ _ _ _ _ _ hp (by omega) (by omega) HM he hA K _ ?_)
              intro v17 v18 v19 v20 v26 v27 v28 v29 v30 v31 v32 v33 v34 v35 v36 v37 v38 v39 v40 v41 v42 v43 v44 v45 v46 v47 v48 v49 v50 v51 v52 v53 v54 v55 v56 v57 v58 v59 v60 v61 v62 v63 v64 v65 v66 v67 v68 v69 v70 v71 v72 v73 v74 v75 v76 v77 v78 v79 v80 v81 v82 v83 v84 v85 v86 v87 v88 v89 v90 v91 v92 v93 v94 v95 v96 v98 v99 v100 v101 v102 v103 v104 v105 v106 v107 v108 v109 v110 v111 v112 v113 v114 v115 v116 v117 v118 v119 v120 v121 v122 v123 v124 v125 v126 v127 v128 v129 v130 v131 v132 v133 v134 v135 v136 v137 v138 v139 v140 v141 v142 v143 v144 v145 v146 v147 v148 v149 v150 v151 v152 v153 v154 v155 v156 v157 v158 v159 v160 v161 v162 v163 v164 v165 v166 v167 v168 v169 v170 v171 v172 v173 v174 v175 v176 w' ba2 bc2 P2 As2 B2 M2 hP2 K2
              go_wp2_with fail
              go_roundw
              case rel => exact ⟨i + 1, k9, O, P2, As2, B2, ba2, bc2, by go_num, by omega, by omega, rfl, mst_of hq0 hP2 M2 hfew K2⟩
              case measure => simp [intOf]; omega
            | false =>
              clear hb1
              focus
                by_cases hp5 : p < 5
                · have e1 : decide (p < 5) = true := decide_eq_true hp5
                  have e2 : (p : Int) < 5 := by omega
                  have hmm2 : IntKind.i64.wrap (2 * (m0 : Int)) = 2 * (m0 : Int) := kwrap_mul 2 m0 (by decide) (by omega)
                  have hmw2 : wrap64 (2 * (m0 : Int)) = 2 * (m0 : Int) := wrap_mul 2 m0 (by decide) (by omega)
                  by_cases hq5 : q0 < 2 * m0
                  · have e3 : (q0 : Int) < 2 * (m0 : Int) := by omega
                    have e4 : decide ((q0 : Int) < 2 * (m0 : Int)) = true := decide_eq_true e3
                    go_upto_if 137 with fail
                    refine Part.use (by kernel_rfl) (inv_part w w9 bn m0 wrong g mb zs ov pv q0 oc p pc i k k9 O P As B ba bc _ _ _ _ _ _ _ _ _ _ _ _ _ _ _ _ _ _ _ _ _ _ _ _ _ _ _ _ _ _ _ _ _ _ _ _ _ _ _ _ _ _ _ _ _ _ _ _ _ _ _ _ _ _ _ _ _ _ _ _ _ _ _ _ _ _ _ _ _ _ _ _ _ _ _ _ _ _ _ _ _ _ _ _ _ _ _ _ _ _ _ _ _ _ _ _ _ _ _ _ _ _ _ _ _ _ _ _ _ _ _ _ _ _ _ _ _ _ _ _ _ _ _ _ _ _ _ _ _ _ _ _ _ _ _ _ _ _ _ _ _ _ _ _ _ _ _ _ _ _ _ _ _ _ _ _ _ _ _ _ _ _ _ _ _ _ _ _ _ _ _ _ hzl (by omega) hk hq0 hp hqb hp5 hq5 (by omega) (by omega) HM K _ ?_)
                    intro v11 v12 v17 v18 v19 v20 v26 v27 v28 v29 v30 v31 v32 v33 v34 v35 v36 v37 v38 v39 v40 v41 v42 v43 v44 v45 v46 v47 v48 v49 v50 v51 v52 v53 v54 v55 v56 v57 v58 v59 v60 v61 v62 v63 v64 v65 v66 v67 v68 v69 v70 v71 v72 v73 v74 v75 v76 v77 v78 v79 v80 v81 v82 v83 v84 v85 v86 v87 v88 v89 v90 v91 v92 v93 v94 v95 v96 v97 v98 v99 v100 v101 v102 v103 v104 v105 v106 v107 v108 v109 v110 v111 v112 v113 v114 v115 v116 v117 v118 v119 v120 v121 v122 v123 v124 v125 v126 v127 v128 v129 v130 v131 v132 v133 v134 v135 v136 v138 v139 v140 v141 v142 v143 v144 v145 v146 v147 v148 v149 v150 v151 v152 v153 v154 v155 v156 v157 v158 v159 v160 v161 v162 v163 v164 v165 v166 v167 v168 v169 v170 v171 v172 v173 v174 v175 v176 w' k2 O2 P2 hk2' M2 hO2 hP2 K2
                    go_wp2_with fail
                    go_roundw
                    case rel => exact ⟨i + 1, k2, O2, P2, As, B, ba, bc, by go_num, by omega, hk2', rfl, ⟨M2, by omega, K2⟩⟩
                    case measure => simp [intOf]; omega
                  · have e3 : ¬ (q0 : Int) < 2 * (m0 : Int) := by omega
                    have e4 : decide ((q0 : Int) < 2 * (m0 : Int)) = false := decide_eq_false e3
                    go_wp2_with fail
                    go_roundw
                    case rel => exact ⟨i + 1, k9, O, P, As, B, ba, bc, by go_num, by omega, by omega, rfl, mst_of hq0 hp (HM.out.mono (by omega)) hfew K⟩
                    case measure => simp [intOf]; omega
                · have e1 : decide (p < 5) = false := decide_eq_false hp5
                  have e2 : ¬ (p : Int) < 5 := by omega
                  go_wp2_with fail
                  go_roundw
                  case rel => exact ⟨i + 1, k9, O, P, As, B, ba, bc, by go_num, by omega, by omega, rfl, mst_of hq0 hp (HM.out.mono (by omega)) hfew K⟩
                  case measure => simp [intOf]; omega
    · by_cases hk2 : k < zs.length
      · have hi2 : ¬ (i : Int) < 3 * (m0 : Int) := by omega
        have hi3 : decide ((i : Int) < 3 * (m0 : Int)) = false := decide_eq_false hi2
        have hM : 0 < max (0 : Int) ((zs.length : Int) - (k : Int)) := by rw [Int.max_eq_right (by omega)]; omega
        generalize max (0 : Int) ((zs.length : Int) - (k : Int)) = M at *
        clear hgo
        go_wp2_with (first
          | (go_at_call 27; ((with_reducible refine (HD.out _ (K.die 2 rfl)).mono ?_); rintro r9 w5 ⟨rfl, rfl⟩; replace K := K.drew)))
        go_ret
        exact lmade_post (K.own 0 rfl) K.hb HM.out
      · have hM : ¬ 0 < max (0 : Int) ((zs.length : Int) - (k : Int)) := by rw [Int.max_eq_left (by omega)]; omega
        generalize max (0 : Int) ((zs.length : Int) - (k : Int)) = M at *
        clear hgo
        go_wp2_with (first
          | (go_at_call 27; ((with_reducible refine (HD.out _ (K.die 2 rfl)).mono ?_); rintro r9 w5 ⟨rfl, rfl⟩; replace K := K.drew)))
        go_ret
        exact lmade_post (K.own 0 rfl) K.hb HM.out
theorem eventsOk : EventsOk where
  made := fun N m0 wrong a n c Z w hz hm h1 h3 h0 => linMade_any N m0 wrong a n c Z w hz hm h1 h3 h0
end Go.Proofs.YtnmhnjjehglcfaaGreat.Ents
