/- Texts that belong together, part 9. -/
import Derived.Test.YtljobnfilnbefaaPack8

/- The walk of the library's SortFunc at entries, by the kit's contract, and of the closure that All hands on. -/
namespace Go.Proofs.Ytljobnfilnbefaa.Ents
open Go.RowKit Plan EntMath
instance entInh : Inhabited Ent := ⟨zeroE⟩
theorem cmpI_lt (x y : Int) : decide (cmpI x y < 0) = decide (x < y) := by
  unfold cmpI
  by_cases h1 : x < y
  · simp [h1]
  · by_cases h2 : y < x <;> simp [h1, h2]
abbrev cmpE : Ent → Ent → Int := fun x y => cmpI x.block y.block
theorem ltE_is (x y : Ent) : ltOf cmpE x y = decide (x.block < y.block) := cmpI_lt _ _
theorem swoE : Sort.SWO (ltOf cmpE) where
  irrefl x := by rw [ltE_is]; simp
  trans x y z h1 h2 := by rw [ltE_is] at *; simp at *; omega
  ntrans x y z h1 h2 := by rw [ltE_is] at *; simp at *; omega
set_option maxHeartbeats 1000000 in
theorem closure_any (x y : Ent) (W : World) : Calls Try.prog 47 #[.agg (entC x).toArray, .agg (entC y).toArray] W fun e w' => e = .returned (.int .i64 (cmpE x y)) ∧ ∃ q os', w' = Sort.grow (W.drewN q) os' := by
  have hcon := Lib.hid (compare_any x.block y.block)
  show Calls Try.prog _ _ W fun e w' => e = .returned (.int .i64 (cmpI x.block y.block)) ∧ ∃ q os', w' = Sort.grow (W.drewN q) os'
  generalize cmpI x.block y.block = r at *
  obtain ⟨xb, xk, xv, xm, xz, xo⟩ := x
  obtain ⟨yb, yk, yv, ym, yz, yo⟩ := y
  try simp only at hcon
  simp only [entC]
  go_enter Try.func47, Try.ntmps47
  go_wp2_with (first | (go_at_call 48; ((with_reducible refine (hcon.out _).mono ?_); rintro e w1 ⟨rfl, rfl⟩)))
  go_ret
  exact ⟨rfl, 0, _, by rw [Sort.alloc_eq_grow, Sort.alloc_eq_grow, Sort.grow_grow]; rfl⟩
theorem flat_get {L : List Ent} {j : Nat} (hj : j < L.length * 6) : (Sort.flatK entC 6 L.toArray)[j]! = (ents L)[j]'(by rw [ents_length]; exact hj) := by
  rw [Sort.get_flatK _ _ _ _ (by simpa using hj)]
  have h1 : j / 6 < L.length := by omega
  have h2 : L[j / 6]? = some (L[j / 6]'h1) := List.getElem?_eq_getElem h1
  have h3 := ents_get h2 (j % 6) (by omega)
  rw [show j / 6 * 6 + j % 6 = j by omega, List.getElem?_eq_getElem (by rw [ents_length]; exact hj)] at h3
  have h4 : L.toArray[j / 6]! = L[j / 6]'h1 := by simp [h1]
  rw [h4]
  have h5 : j % 6 < (entC (L[j / 6]'h1)).length := by simp [entC]; omega
  rw [List.getElem?_eq_getElem h5] at h3
  rw [getElem!_pos (entC (L[j / 6]'h1)) (j % 6) h5]
  exact (Option.some.inj h3).symm
theorem own_holds {w : World} {B g n c : Nat} {L : List Ent} (h : w.ownsRow B 28 6 (.slice (some ⟨g, 0, none⟩) n c) n (ents L)) : Sort.HoldsK entC 6 w g 0 L.toArray := by
  intro j hj
  rw [Sort.size_flatK] at hj
  have hj' : j < L.length * 6 := by simpa using hj
  rw [Nat.zero_add, flat_get hj']
  have hjl : j < (ents L).length := by rw [ents_length]; exact hj'
  have h1 := h.cells (g := g) rfl j _ (List.getElem?_eq_getElem hjl)
  rw [Addr.add_lit, Nat.zero_add] at h1
  exact ⟨h1, (e_owns_one h hjl).2⟩
theorem holds_elist {w : World} {F : Nat → Prop} {g c : Nat} {L : List Ent} (h : Sort.HoldsK entC 6 w g 0 L.toArray) (hc : L.length ≤ c) (hm : c ≤ maxLen) (hg : g < w.heap.size) (hF : F g) : EList w F (some ⟨g, 0, none⟩) L.length c L := by
  refine .inr ⟨_, rfl, hc, hm, rfl, hg, hF, fun j u hu => ?_⟩
  have hjl := (List.getElem?_eq_some_iff.1 hu).1
  have hj : j < L.length * 6 := by rwa [ents_length] at hjl
  have h1 := (h j (by rw [Sort.size_flatK]; simpa using hj)).1
  rw [Nat.zero_add, flat_get hj] at h1
  rw [List.getElem?_eq_getElem hjl] at hu
  rw [Addr.add_lit, Nat.zero_add, h1, ← hu]
  rfl
theorem sort_below {w : World} {B g m : Nat} (d : Array Ent) (os : Array Obj) (hB : B ≤ g) (hw : g < w.heap.size) : Below B w (sortWorldK entC 6 w g 0 m d os) := by
  refine ⟨rfl, rfl, rfl, ?_, fun k hk => ?_⟩
  · unfold sortWorldK
    rw [Sort.size_grow, Sort.size_putRowK]
    exact Nat.le_add_right _ _
  · unfold sortWorldK Sort.grow Sort.putRowK Sort.putRow Sort.mapBlock
    have hks : k < w.heap.size := by omega
    simp only
    rw [Array.getElem?_append_left (by simp [Sort.ahead]; exact hks)]
    rw [Array.getElem?_modify, if_neg (by omega)]
    rfl
set_option maxHeartbeats 1000000 in
theorem sort_any (L : List Ent) (B g c : Nat) (w : World) (hB : B ≤ g) (hO : w.ownsRow B 28 6 (.slice (some ⟨g, 0, none⟩) L.length c) L.length (ents L)) (hm : L.length ≤ 900000) :
    Calls Try.prog 46 #[.slice (some ⟨g, 0, none⟩) L.length c, .func (.func 47) #[] #[]] w fun e w' => e = .returned (.tuple #[]) ∧ ∃ M, M.Perm L ∧ (M.Pairwise fun x y => x.block ≤ y.block) ∧ EList w' (fun b => b = g) (some ⟨g, 0, none⟩) L.length c M ∧ Below B w w' := by
  have eg : ∀ args w, (callFunc 47 args).run Try.prog w = .ok (.enter 47 args) w := enters_of Try.func47 (by kernel_rfl) rfl
  have hg := (hO.lt g rfl).2
  have hcap : L.length ≤ c ∧ c ≤ maxLen := by
    rcases hO.2 with ⟨h, _⟩ | ⟨_, _, _, h, _, _, h1, h2, _⟩
    · cases h
    · cases h
      exact ⟨h1, h2⟩
  have hH := own_holds hO
  have hcmp : CmpLays Try.prog 47 #[] entC 6 cmpE g 0 L.toArray.size w := fun _ _ _ _ x y => closure_any x y _
  have hcon := AnyQ.slices_SortFunc Try.sortEnt 6 Try.isAgg28 Try.sizeOf28 entC (fun _ => rfl) (fun x v hv => by simp [entC] at hv; rcases hv with rfl | rfl | rfl | rfl | rfl | rfl <;> rfl) cmpE swoE 47 #[] g 0 c L.toArray w eg hcmp hH hg (by simp; omega)
  change Calls Try.prog 46 _ _ _ at hcon
  have hz : L.toArray.size = L.length := by simp
  rw [hz] at hcon
  refine hcon.mono ?_
  rintro e w' ⟨rfl, d', m, os, ⟨hsz, -, hp⟩, hs, rfl⟩
  rw [hz] at hsz
  have hd : d'.toList.length = L.length := by simpa using hsz
  have hp' : d'.toList.Perm L := by
    have h1 : (d'.extract 0 L.length).toList = d'.toList := by rw [← hsz]; simp
    have h2 : (L.toArray.extract 0 L.length).toList = L := by simp
    rw [h1, h2] at hp
    exact hp
  have hd2 : d' = d'.toList.toArray := by simp
  refine ⟨rfl, d'.toList, hp', ?_, ?_, sort_below d' os hB hg⟩
  · rw [List.pairwise_iff_getElem]
    intro i j hi hj hij
    have h1 := hs i j (Nat.zero_le _) hij (by rw [← hd]; exact hj)
    rw [ltE_is] at h1
    have hi' : i < d'.size := by simpa using hi
    have hj' : j < d'.size := by simpa using hj
    rw [getElem!_pos d' i hi', getElem!_pos d' j hj'] at h1
    simp only [Array.getElem_toList]
    simpa using h1
  · have hh : Sort.HoldsK entC 6 (sortWorldK entC 6 w g 0 m d' os) g 0 d' := holdsK_sortWorldK entC 6 w g 0 m L.toArray d' os hg hH (by rw [hz]; exact hsz)
    rw [hd2] at hh
    have := holds_elist (F := fun b => b = g) (c := c) hh (by rw [hd]; exact hcap.1) hcap.2 (Nat.lt_of_lt_of_le hg (sort_below (B := 0) (m := m) d'.toList.toArray os (Nat.zero_le _) hg).size) rfl
    rw [hd] at this
    rw [hd2]
    simpa using this
end Go.Proofs.Ytljobnfilnbefaa.Ents

/- The walks of the library's Concat of any lists, of SortFunc of none, and of the program's All of a map. -/
namespace Go.Proofs.Ytljobnfilnbefaa.Ents
open Go.RowKit Plan EntMath
theorem len0_any (w : World) : Calls Try.prog 64 #[.int .u64 0] w fun e w' => e = .returned (.int .i64 0) ∧ w' = w := by
  have h := Any.bits_Len (SlLaysF0.n15.bits (P := Try.prog) (ρ := Try.sortEnt_ren) { Try.sortEnt with }) 0 w (by omega) (by omega)
  exact h
set_option maxHeartbeats 1000000 in
theorem insertion_nil (p : Option Addr) (c : Nat) (v : Value) (w : World) :
    Calls Try.prog 70 #[.slice p 0 c, .int .i64 0, .int .i64 0, v] w fun e w' => e = .returned (.tuple #[]) ∧ w' = w := by
  go_enter Try.func70, Try.ntmps70
  go_wp2
  refine wp_loop_rounds 1 ?_
  rw [rounds_succ]
  go_wp2
  go_end0
  exact ⟨rfl, rfl⟩
set_option maxHeartbeats 1000000 in
set_option maxRecDepth 100000 in
theorem pdq_nil (p : Option Addr) (c : Nat) (v : Value) (w : World) :
    Calls Try.prog 63 #[.slice p 0 c, .int .i64 0, .int .i64 0, .int .i64 0, v] w fun e w' => e = .returned (.tuple #[]) ∧ w' = w := by
  go_enter Try.func63, Try.ntmps63
  go_wp2
  refine wp_loop_rounds 1 ?_
  rw [rounds_succ]
  go_wp2_with (first | (go_at_call 70; refine (insertion_nil p c v _).mono ?_; rintro e w' ⟨rfl, rfl⟩))
  refine bodyPost_ret (results_none rfl _ _ _) rfl ?_
  exact ⟨rfl, rfl⟩
set_option maxHeartbeats 1000000 in
theorem sort_nil (p : Option Addr) (c : Nat) (v : Value) (w : World) :
    Calls Try.prog 46 #[.slice p 0 c, v] w fun e w' => e = .returned (.tuple #[]) ∧ w' = w := by
  go_enter Try.func46, Try.ntmps46
  go_wp2_with (first
    | (go_at_call 64; refine (len0_any _).mono ?_; rintro e w' ⟨rfl, rfl⟩)
    | (go_at_call 63; refine (pdq_nil p c v _).mono ?_; rintro e w' ⟨rfl, rfl⟩))
  go_end0
  exact ⟨rfl, rfl⟩
set_option maxHeartbeats 1000000 in
theorem grow_nil (w : World) :
    Calls Try.prog 62 #[.slice none 0 0, .int .i64 0] w fun e w' => e = .returned (.slice none 0 0) ∧ w' = w := by
  go_enter Try.func62, Try.ntmps62
  go_wp2
  go_ret
  exact ⟨rfl, rfl⟩
theorem grow_all (n : Nat) (w : World) (hm : n ≤ 1000000) :
    Calls Try.prog 62 #[.slice none 0 0, .int .i64 n] w fun e w' => ∃ v, e = .returned v ∧ w'.ownsRow w.heap.size 28 6 v 0 (ents []) ∧ Below w.heap.size w w' := by
  by_cases h : 0 < n
  · exact (grow_any n w h hm).mono fun e w' h => by obtain ⟨g, c, h1, h2, h3⟩ := h; exact ⟨_, h1, h2, h3⟩
  · obtain rfl : n = 0 := by omega
    exact (grow_nil w).mono fun e w' h => by obtain ⟨rfl, rfl⟩ := h; exact ⟨_, rfl, ⟨rfl, .inl ⟨rfl, rfl⟩⟩, Below.refl _ _⟩
set_option maxHeartbeats 2000000 in
set_option maxRecDepth 20000 in
theorem concat_all (F : Nat → Prop) (Ls : List (List Ent)) (x : Addr) (m cap : Nat) (w : World) (hl : ListsAt w F x Ls) (hlen : Ls.length = m) (hmm : m ≤ 1000) (hm : Ls.flatten.length ≤ 900000) :
    Calls Try.prog 45 #[.slice (some x) m cap] w fun r w' => ∃ v, r = .returned v ∧ w'.ownsRow w.heap.size 28 6 v Ls.flatten.length (ents Ls.flatten) ∧ Below w.heap.size w w' := by
  have HL := Lib.hid (fun W (h : Below w.heap.size w W) i (hi : i < m) => (show ∃ L a n c, Ls[i]? = some L ∧ W.cell? (x.add i) = some (.slice a n c) ∧ EList W (fun b => b < w.heap.size) a n c L ∧ (Ls.take (i + 1)).flatten = (Ls.take i).flatten ++ L ∧ ((Ls.take i).flatten).length + n ≤ 900000 from by
    have hi2 : Ls[i]? = some (Ls[i]'(by omega)) := List.getElem?_eq_getElem _
    obtain ⟨a, n, c, h1, h2⟩ := (ListsAt.keep hl.low h).at' i _ hi2
    have h3 := flat_next hi2
    have h4 := flat_le Ls (i + 1)
    rw [h3, List.length_append, h2.length] at h4
    exact ⟨_, a, n, c, hi2, h1, h2, h3, by omega⟩))
  have HT0 : RowKit.Hid ((Ls.take 0).flatten = []) := Lib.hid (by simp)
  have HTm : RowKit.Hid ((Ls.take m).flatten = Ls.flatten) := Lib.hid (by rw [List.take_of_length_le (by omega)])
  generalize Ls.flatten = R at *
  clear hl hlen
  go_enter Try.func45, Try.ntmps45
  go_wp2_with fail
  go_loopw [3, 11] (fun s c wr => ∃ i : Nat, c = .int .i64 (i : Int) ∧ i ≤ m ∧ s = .int .i64 (((Ls.take i).flatten.length : Nat) : Int) ∧ wr = w) (fun _ c _ => m - (intOf c).toNat)
  case atStart => exact ⟨0, rfl, by omega, by rw [HT0.out]; rfl, rfl⟩
  case round =>
    obtain ⟨i, rfl, hi, rfl, hww⟩ := hrel
    have h9 : w = wr := hww.symm
    subst h9
    clear hww
    by_cases hlt : i < m
    · obtain ⟨L, a, n, c, he, hc, hli, hfn, hbd⟩ := HL.out w (Below.refl _ _) i hlt
      have hFN := Lib.hid hfn
      have hnl := hli.length
      have hiI : (i : Int) < (m : Int) := by omega
      clear he hli hfn
      generalize hS : (Ls.take i).flatten.length = S at *
      have hSS := Lib.hid hS
      clear hS
      go_wp2_with fail
      go_roundw
      case rel => exact ⟨i + 1, by go_num, by omega, by rw [hFN.out, List.length_append, hSS.out, hnl]; go_num, by trivial⟩
      case measure => simp [intOf]; omega
    · obtain rfl : m = i := by omega
      rw [HTm.out]
      have HG := Lib.hid (grow_all R.length w (by omega))
      generalize hRL : R.length = RL at *
      have hRLh := Lib.hid hRL
      clear hRL
      go_wp2_with (first
        | (go_at_call 62; ((with_reducible refine HG.out.mono ?_); rintro e9 w1 ⟨v1, rfl, hown1, h1⟩)))
      have HO1 := Lib.hid hown1
      clear hown1
      go_loopw [6, 27] (fun v c wz => ∃ i : Nat, c = .int .i64 (i : Int) ∧ i ≤ m ∧ wz.ownsRow w.heap.size 28 6 v (Ls.take i).flatten.length (ents (Ls.take i).flatten) ∧ Below w.heap.size w wz) (fun _ c _ => m - (intOf c).toNat)
      case atStart => exact ⟨0, rfl, by omega, by rw [HT0.out]; exact HO1.out, h1⟩
      case round =>
        clear HO1 HG
        obtain ⟨i, rfl, hi, hown, hb⟩ := hrel
        by_cases hlt : i < m
        · obtain ⟨L, a, n, c, he, hc, hli, hfn, hbd⟩ := HL.out wr hb i hlt
          have hFN := Lib.hid hfn
          have HLI := Lib.hid hli
          have hiI : (i : Int) < (m : Int) := by omega
          clear he hfn
          have hnl := hli.length
          clear hli
          go_wp2_with (first
            | (at_builtin; refine append_ents (F := fun b => b < w.heap.size) rfl (.tmp 31) (.tmp 32) rfl w.heap.size _ _ _ rfl hown a n c L rfl HLI.out (by omega) hb.size ?_; intro v7 w7 hown7 hgrow7; have b7 := hb.grown hgrow7 hb.size (fun z9 h9 => (hown.lt z9 h9).1)))
          go_roundw
          case rel => exact ⟨i + 1, by go_num, by omega, by rw [hFN.out, List.length_append, hnl]; exact hown7, b7⟩
          case measure => simp [intOf]; omega
        · obtain rfl : m = i := by omega
          rw [HTm.out] at hown
          have HO := Lib.hid hown
          clear hown
          go_wp2_with fail
          go_ret
          exact ⟨_, rfl, by rw [← hRLh.out]; exact HO.out, hb⟩
theorem own_slice {w : World} {B n : Nat} {t : TypeId} {v : Value} {xs : List Value} (h : w.ownsRow B t 6 v n xs) : ∃ a c, v = .slice a n c := by
  rcases h.2 with ⟨rfl, rfl⟩ | ⟨g, cap, cur, rfl, _⟩
  · exact ⟨_, _, rfl⟩
  · exact ⟨_, _, rfl⟩
/-- the sort of any list that the call owns -/
theorem sort_own (L : List Ent) (B : Nat) (v : Value) (w : World) (hO : w.ownsRow B 28 6 v L.length (ents L)) (hm : L.length ≤ 900000) :
    Calls Try.prog 46 #[v, .func (.func 47) #[] #[]] w fun e w' => e = .returned (.tuple #[]) ∧ ∃ a c M, v = .slice a L.length c ∧ M.Perm L ∧ (M.Pairwise fun x y => x.block ≤ y.block) ∧ EList w' (fun b => B ≤ b) a L.length c M ∧ Below B w w' := by
  by_cases h0 : 0 < L.length
  · obtain ⟨g, c, rfl, hg, -⟩ := own_some hO h0
    exact (sort_any L B g c w hg hO hm).mono fun e w' h => by
      obtain ⟨h1, M, h2, h3, h4, h5⟩ := h
      exact ⟨h1, _, _, M, rfl, h2, h3, h4.mono (fun b _ hb => by rw [hb]; exact hg), h5⟩
  · obtain rfl : L = [] := List.length_eq_zero_iff.1 (by omega)
    obtain ⟨-, a, c, rfl, hl⟩ := owns_ents (F := fun b => B ≤ b) hO (fun b hb => (hO.lt b hb).1)
    exact (sort_nil a c _ w).mono fun e w' h => by
      obtain ⟨h1, rfl⟩ := h
      exact ⟨h1, _, _, [], rfl, List.Perm.refl _, List.Pairwise.nil, hl, Below.refl _ _⟩
set_option maxHeartbeats 2000000 in
set_option maxRecDepth 20000 in
theorem mall_any (F : Nat → Prop) (Ls : List (List Ent)) (a : Option Addr) (n c : Nat) (w : World) (hl : MList w F a n c Ls) (hm : Near Ls) :
    Calls Try.prog 26 #[mapV a n c] w fun r w' => ∃ b m d, r = .returned (.slice b m d) ∧ EList w' (Plus F w.heap.size) b m d (allM Ls) ∧ Below w.heap.size w w' := by
  have hlen := hl.length
  have hA := (Below.refl w.heap.size w).alloc (Nat.le_refl _) (mapRow a n c)
  have hr0 := heap_alloc_new w (mapRow a n c)
  have HV := Lib.hid (fun W (h : Below w.heap.size w W) => mvalid_any _ Ls a n c W (hl.same h))
  cases hva : validM Ls
  · have hR : allM Ls = [] := by unfold allM; rw [hva]; rfl
    rw [hva] at HV
    rw [hR]
    clear hl hm hva hR
    go_enter Try.func26, Try.ntmps26
    generalize hw0 : w.alloc (mapRow a n c) = w0 at *
    go_wp2_with (first
      | ((with_reducible refine Plan.load_lit 24 (.tmp 1) w.heap.size ?_ hr0 Try.underlying24 ?_ ?_ ?_); (· rfl); (· rfl); (· exact map_info); simp only [Act.put, List.setIfInBounds_toArray, List.set_cons_zero, List.set_cons_succ])
      | (go_at_call 27; ((with_reducible refine (HV.out _ hA).mono ?_); rintro e9 w1 ⟨rfl, h1⟩; have b1 := hA.trans (h1.mono hA.size))))
    go_ret
    exact ⟨none, 0, 0, rfl, EList.nil _ _, b1⟩
  · have h8 := (validM_iff.1 hva).1
    have hfl := hm h8.2
    obtain ⟨x, rfl⟩ : ∃ x, a = some x := by
      rcases hl with ⟨_, rfl, _, rfl⟩ | ⟨x, rfl, _⟩
      · simp at h8
      · exact ⟨x, rfl⟩
    have HL := Lib.hid (fun W (h : Below w.heap.size w W) => (show ListsAt W (fun b => b < w.heap.size) x Ls from ⟨fun i L hi => by
      rcases hl.same h with ⟨h9, _⟩ | ⟨y, h1, _, _, _, _, _, h7⟩
      · cases h9
      · obtain rfl := Option.some.inj h1
        exact h7 i L hi⟩))
    have HC := Lib.hid (fun W (h : Below w.heap.size w W) => concat_all _ Ls x n c W (HL.out W h) hlen (by omega) (by omega))
    have HS := Lib.hid (fun B v W hO => sort_own Ls.flatten B v W hO (by omega))
    have hall := fun M (h1 : List.Perm M Ls.flatten) h2 => sorted_all hva h1 h2
    rw [hva] at HV
    generalize allM Ls = R at *
    generalize Ls.flatten = Q at *
    have HALL := Lib.hid hall
    clear hall HL hl hm hva
    go_enter Try.func26, Try.ntmps26
    generalize hw0 : w.alloc (mapRow (some x) n c) = w0 at *
    go_wp2_with (first
      | ((with_reducible refine Plan.load_lit 24 (.tmp 1) w.heap.size ?_ hr0 Try.underlying24 ?_ ?_ ?_); (· rfl); (· rfl); (· exact map_info); simp only [Act.put, List.setIfInBounds_toArray, List.set_cons_zero, List.set_cons_succ])
      | (go_at_call 27; ((with_reducible refine (HV.out _ hA).mono ?_); rintro e9 w1 ⟨rfl, h1⟩; have b1 := hA.trans (h1.mono hA.size); have hc1 := map_row (e_on h1 hr0 (e_lt hr0))))
      | (go_at_call 45; ((with_reducible refine (HC.out _ b1).mono ?_); rintro e9 w2 ⟨v2, rfl, O2, h2⟩; have b2 := b1.trans (h2.mono b1.size); have HO2 := Lib.hid O2; clear O2; have hz1 := b1.size))
      | (go_at_call 46; ((with_reducible refine (HS.out _ _ _ HO2.out).mono ?_); rintro e9 w3 ⟨rfl, a3, c3, M, rfl, hp3, hs3, hl3, h3⟩; have b3 := b2.trans (h3.mono hz1))))
    go_ret
    exact ⟨_, _, _, rfl, by rw [← HALL.out M hp3 hs3]; exact hl3.mono (fun b _ hb => .inr (by omega)), b3⟩
end Go.Proofs.Ytljobnfilnbefaa.Ents
