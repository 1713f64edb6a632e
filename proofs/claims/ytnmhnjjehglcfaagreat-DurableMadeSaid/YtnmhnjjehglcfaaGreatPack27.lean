/- Texts that belong together, part 27. -/
import Derived.Test.YtnmhnjjehglcfaaGreatPack26
import Derived.Deep.CutBlock
import Derived.Deep.DeepCutAuto

/- The history of the sanity check of layer 20. Plain mathematics. -/
namespace Go.Proofs.YtnmhnjjehglcfaaGreat.DurMath
open HisMath LinMath ModMath CmdMath
def dwX (r : Bool) (a : ByteArray) : Ev := ⟨r, 0, 0, 2, 0, a, 0, ⟨#[]⟩⟩
def dwF (r : Bool) : Ev := ⟨r, 0, 1, 4, 0, ⟨#[]⟩, 0, ⟨#[]⟩⟩
def dwY (b : ByteArray) : Ev := ⟨false, 0, 2, 2, 0, b, 0, ⟨#[]⟩⟩
def dwH (a b : ByteArray) : List Ev := [dwX false a, dwX true a, dwF false, dwF true, dwY b]
theorem dw_hist (a b : ByteArray) : Right (dwH a b) := by
  have h1 : Right ([] ++ [dwX false a]) := .inv .nil ⟨rfl, (show (0 : Int) ≤ 0 by decide), (show (0 : Int) < 4 by decide), (show (0 : Int) ≤ 0 by decide), by simp, rfl, rfl⟩
  have h2 : Right ([dwX false a] ++ [dwX true a]) := .ret h1 ⟨rfl, (show (0 : Int) ≤ 0 by decide), (show (0 : Int) < 4 by decide), (show (0 : Int) ≤ 0 by decide), ⟨dwX false a, by simp, rfl, rfl, rfl, rfl, rfl, rfl⟩, by simp [dwX], rfl⟩
  have h3 : Right ([dwX false a, dwX true a] ++ [dwF false]) := .inv h2 ⟨rfl, (show (0 : Int) ≤ 0 by decide), (show (0 : Int) < 4 by decide), (show (0 : Int) ≤ 1 by decide), by simp [dwX, dwF], rfl, rfl⟩
  have h4 : Right ([dwX false a, dwX true a, dwF false] ++ [dwF true]) := .ret h3 ⟨rfl, (show (0 : Int) ≤ 0 by decide), (show (0 : Int) < 4 by decide), (show (0 : Int) ≤ 1 by decide), ⟨dwF false, by simp, rfl, rfl, rfl, rfl, rfl, rfl⟩, by simp [dwX, dwF], rfl⟩
  exact .inv (L := [dwX false a, dwX true a, dwF false, dwF true]) h4 ⟨rfl, (show (0 : Int) ≤ 0 by decide), (show (0 : Int) < 4 by decide), (show (0 : Int) ≤ 2 by decide), by simp [dwX, dwF, dwY], rfl, rfl⟩
theorem dw_ops (a b : ByteArray) : opsE (dwH a b) (dwH a b).length = [dwX true a, dwF true, dwY b] := by
  rw [ops_right (dw_hist a b) _ (Nat.le_refl _)]
  rfl
theorem dw_pt (a b : ByteArray) : ptE (dwH a b) (dwH a b).length = 2 := rfl
theorem dw_sizes {a b z : ByteArray} (hz : z.size = 16) : sizesE [z] (dwH a b) = 0 := by
  refine sizes_good ?_ (fun i s hi hs => ?_)
  · unfold checkE
    rw [if_neg (by simp), if_neg (by simp [dwH]), if_pos ((rights_iff _).2 (dw_hist a b))]
  · rcases i with _ | i
    · obtain rfl := Option.some.inj (show some z = some s from hs)
      exact hz
    · simp at hi
theorem dw_allow {a b z : ByteArray} (hz : z.size = 16) (hab : lessB a b = true) : allowE [z] (dwH a b) 0 = [a, b] := by
  obtain ⟨h1, h2⟩ := allow_iff (B := [z]) (L := dwH a b) (i := 0) (u := z) (dw_sizes hz) rfl
  refine asc_only h1 (by unfold AscS; simp [hab]) fun v => ?_
  rw [show (0 : Int) = ((0 : Nat) : Int) from rfl, h2]
  unfold AllowP
  rw [dw_ops, dw_pt]
  have b02 : beforeB (dwH a b) 2 0 = false := rfl
  have b00 : beforeB (dwH a b) 0 0 = false := rfl
  have a0 : ahB (dwH a b) 0 2 = true := rfl
  have cX : chB ((0 : Nat) : Int) (dwX true a) = true := rfl
  have cF : chB ((0 : Nat) : Int) (dwF true) = false := rfl
  have cY : chB ((0 : Nat) : Int) (dwY b) = true := rfl
  have aY : ahB (dwH a b) 2 2 = false := rfl
  constructor
  · rintro (⟨x, hx, hc, _, rfl⟩ | ⟨hf, _⟩)
    · simp only [List.mem_cons, List.not_mem_nil, or_false] at hx ⊢
      rcases hx with rfl | rfl | rfl
      · exact .inl rfl
      · have : candB ((0 : Nat) : Int) (dwF true) = false := rfl
        rw [this] at hc; cases hc
      · exact .inr rfl
    · have := hf (dwX true a) (by simp) rfl
      have h9 : ahB (dwH a b) (dwX true a).serial 2 = true := rfl
      rw [h9] at this; cases this
  · intro hv
    simp only [List.mem_cons, List.not_mem_nil, or_false] at hv
    left
    have key : ∀ x : Ev, (x.serial = 0 ∨ x.serial = 2) → ∀ y ∈ [dwX true a, dwF true, dwY b], chB ((0 : Nat) : Int) y = true → ahB (dwH a b) y.serial 2 = true → beforeB (dwH a b) x.serial y.serial = false := fun x hx y hy h3 h4 => by
      simp only [List.mem_cons, List.not_mem_nil, or_false] at hy
      rcases hy with rfl | rfl | rfl
      · rcases hx with hx | hx
        · rw [hx]; exact b00
        · rw [hx]; exact b02
      · rw [cF] at h3; cases h3
      · have h9 : ahB (dwH a b) (dwY b).serial 2 = false := rfl
        rw [h9] at h4; cases h4
    rcases hv with rfl | rfl
    · exact ⟨dwX true v, by simp, rfl, key _ (.inl rfl), rfl⟩
    · exact ⟨dwY v, by simp, rfl, key _ (.inr rfl), rfl⟩
theorem dw_yes {a b z : ByteArray} (hz : z.size = 16) (hab : lessB a b = true) : durE [z] (dwH a b) [a] = 0 := by
  rw [dur_is (X := [a]) (dw_sizes hz) rfl, good_all (fun i hi => ?_)]
  · rfl
  · obtain rfl : i = 0 := by simp at hi; omega
    show (allowE [z] (dwH a b) 0).any (eqB a) = true
    rw [dw_allow hz hab]
    simp [eqB]
theorem dw_no {a b z : ByteArray} (hz : z.size = 16) (hab : lessB a b = true) (ha : a ≠ z) (hb : b ≠ z) : durE [z] (dwH a b) [z] = 14 := by
  rw [dur_is (X := [z]) (dw_sizes hz) rfl, good_not (i := 0) (by simp) ?_]
  · rfl
  · show (allowE [z] (dwH a b) 0).any (eqB z) = false
    rw [dw_allow hz hab]
    simp [eqB, ha, hb]
theorem val_less : lessB ⟨(valueL 1).toArray⟩ ⟨(valueL 2).toArray⟩ = true := by
  unfold lessB
  rw [Lib.toList_data, Lib.toList_data]
  decide
theorem val_ne : (⟨(valueL 1).toArray⟩ : ByteArray) ≠ zeroC ∧ (⟨(valueL 2).toArray⟩ : ByteArray) ≠ zeroC := by decide
end Go.Proofs.YtnmhnjjehglcfaaGreat.DurMath

/- The walk of the histories that the laws of layer 20 make. -/
namespace Go.Proofs.YtnmhnjjehglcfaaGreat.Ents
open Go.RowKit Plan HisMath Rws Env LayMath
/-- what the maker of a right history leaves -/
def DMadePost (w : World) (r : Ending) (w' : World) : Prop :=
  ∃ (v : Value) (X : List Ev), r = .returned v ∧ w'.ownsRow w.heap.size VR.et VR.sz v X.length (VR.all X) ∧ Below w.heap.size w w' ∧ Right X ∧ X.length ≤ 50 ∧ ∀ x ∈ X, x.serial < 50
theorem low_of {O P : List Ev} {j : Nat} (h : Made O P (j : Int)) (hj : j ≤ 50) : ∀ x ∈ O, x.serial < 50 := fun x hx => by have := h.low x hx; omega
set_option maxHeartbeats 4000000 in
set_option maxRecDepth 20000 in
theorem durReturned_any (e : Ev) (w : World) : Calls Tryz.prog 60 #[evV e] w fun r w' => r = .returned (evV { e with ret := true }) ∧ Below w.heap.size w w' := by
  obtain ⟨er, eq, es, ek, eb, ed, ee, ex⟩ := e
  have K9 := ((Env.start w).al (.cells #[.bool true, .int .i64 eq, .int .i64 es, .int .i64 ek, .int .i64 eb, .string ed, .int .i64 ee, .string ex] 55)).al (.cells #[.bool true, .int .i64 eq, .int .i64 es, .int .i64 ek, .int .i64 eb, .string ed, .int .i64 ee, .string ex] 55)
  simp only [World.size_alloc] at K9
  go_enter Tryz.func60, Tryz.ntmps60
  go_wp2_with fail
  exact bodyPost_ret (results_cell_row rfl _ _ _ _ _ _ _ rfl (K9.get 0 rfl) Tryz.underlying55 rfl ev_info) rfl ⟨rfl, K9.hb⟩
set_option maxHeartbeats 8000000 in
set_option maxRecDepth 20000 in
theorem durMade_any (a : Option Addr) (n c : Nat) (Z : List Int) (w : World) (hz : IsRow .i64 w a n c Z) (hm : n ≤ 300) :
    Calls Tryz.prog 32 #[.slice a n c] w (DMadePost w) := by
  have HR := Lib.hid (roll_any a n c Z w hz hm)
  unfold RollPost at HR
  have hzl : (Z.take n).length ≤ 100000 := by rw [List.length_take]; omega
  have K := Env.start w
  unfold DMadePost
  generalize Z.take n = zs at *
  clear hz
  go_enter Tryz.func32, Tryz.ntmps32
  go_wp2_with (first
    | (go_at_call 26; ((with_reducible refine (HR.out).mono ?_); rintro r9 w1 ⟨g, rfl, hd, hb⟩; replace K := (K.roll hd hb).1; clear hd hb)))
  clear HR
  replace K := ((K.nil VR).nil VR)
  go_loopw [4, 5, 6] (fun o p x wr => ∃ (j k : Nat) (O P : List Ev), x = .int .i64 (j : Int) ∧ j ≤ 50 ∧ k ≤ 8 * j ∧ O.length = j ∧ P.length ≤ j ∧ RowKit.Hid (Made O P (j : Int)) ∧ RowKit.Hid (∀ x ∈ P, 2 ≤ x.kind) ∧ Env w wr [Env.lst VR o j O, Env.lst VR p P.length P, dieT w.heap.size g zs k]) (fun _ _ x _ => 50 - (intOf x).toNat)
  case atStart => exact ⟨0, 0, [], [], rfl, by omega, by omega, rfl, by simp, Lib.hid Made.start, Lib.hid (by simp), K⟩
  case round =>
    clear K
    obtain ⟨j, k, O, P, rfl, hj, hk, hO, hP, HM, HKN, K⟩ := hrel
    have HD := Lib.hid (fun W (h : Dice W w.heap.size g zs k) => rest_dice W w.heap.size g zs k h hzl (by omega))
    by_cases hgo : k < zs.length ∧ j < 50
    · obtain ⟨hk2, hj2⟩ := hgo
      have hM : 0 < max (0 : Int) ((zs.length : Int) - (k : Int)) := by rw [Int.max_eq_right (by omega)]; omega
      generalize max (0 : Int) ((zs.length : Int) - (k : Int)) = M at *
      have hjI : (j : Int) < 50 := by omega
      have t5 : decide ((j : Int) < 50) = true := decide_eq_true hjI
      obtain ⟨ov, hov⟩ : ∃ a c, u4 = .slice a j c := by
        obtain ⟨a, c, e, _⟩ := K.any vrOk 0 rfl
        exact ⟨a, c, e⟩
      obtain ⟨oc, rfl⟩ := hov
      obtain ⟨pv, hpv⟩ : ∃ a c, u5 = .slice a P.length c := by
        obtain ⟨a, c, e, _⟩ := K.any vrOk 1 rfl
        exact ⟨a, c, e⟩
      obtain ⟨pc, rfl⟩ := hpv
      obtain ⟨p, hp⟩ : ∃ p, P.length = p := ⟨_, rfl⟩
      rw [hp] at K hP ⊢
      go_upto_region 6 with (first
        | (go_at_call 27; ((with_reducible refine (HD.out _ (K.die 2 rfl)).mono ?_); rintro r9 w5 ⟨rfl, rfl⟩; replace K := K.drew)))
      generalize hw5 : World.drew _ = w5 at *
      clear hw5 HD
      go_cut [29] (fun s wx => ∃ (k' : Nat) (b : Bool), s = .bool b ∧ (b = true → 0 < p) ∧ k' ≤ k + 1 ∧ Env w wx [Env.lst VR (.slice ov j oc) j O, Env.lst VR (.slice pv p pc) p P, dieT w.heap.size g zs k'])
      case first =>
        by_cases hp0 : 0 < p
        · have q1 : decide (0 < p) = true := decide_eq_true hp0
          have q2 : (0 : Int) < (p : Int) := by omega
          have m1 : True := trivial
          go_wp2_with (first
            | (have z9 := m1; clear z9; go_at_call 28; ((with_reducible refine (K.next 2 rfl hzl _ (by omega) (by omega)).mono ?_); rintro r9 w9 ⟨y, k9, rfl, hy, hk9, K9, -⟩; simp only [List.set] at K9; clear K m1; have K := K9; clear K9)))
          go_meet
          exact ⟨_, _, rfl, fun _ => hp0, hk9, K⟩
        · have q1 : decide (0 < p) = false := decide_eq_false hp0
          have q2 : ¬ (0 : Int) < (p : Int) := by omega
          go_wp2_with fail
          go_meet
          exact ⟨_, _, rfl, (fun h => by cases h), by omega, K⟩
      case rest =>
        clear K
        obtain ⟨k1, b, rfl, hb, hk1, K⟩ := hcut
        go_upto_if 29 with fail
        cases b
        · have m1 : True := trivial
          have m2 : True := trivial
          have m3 : True := trivial
          clear hb
          have m4 : True := trivial
          go_upto_region 14 with (first
            | (have z9 := m1; clear z9; go_at_call 28; ((with_reducible refine (K.next 2 rfl hzl _ (by omega) (by omega)).mono ?_); rintro r9 w9 ⟨q, k9, rfl, hq, hk9, K9, -⟩; simp only [List.set] at K9; clear K m1; have K := K9; clear K9))
            | (have z9 := m2; clear z9; go_at_call 28; ((with_reducible refine (K.next 2 rfl hzl _ (by omega) (by omega)).mono ?_); rintro r9 w9 ⟨y, k9, rfl, hy, hk9, K9, -⟩; simp only [List.set] at K9; clear K m2; have K := K9; clear K9; have hy3 : y ≤ 2 := (by omega); have hk65 : IntKind.i64.wrap (2 + (y : Int)) = 2 + (y : Int) := (by rw [IntWalk.i64_in _ (by omega)]); have hk64 : wrap64 (2 + (y : Int)) = 2 + (y : Int) := by clear K; unfold wrap64; omega))
            | (have z9 := m3; clear z9; go_at_call 28; ((with_reducible refine (K.next 2 rfl hzl _ (by omega) (by omega)).mono ?_); rintro r9 w9 ⟨bl, k9, rfl, hbl, hk9, K9, -⟩; simp only [List.set] at K9; clear K m3; have K := K9; clear K9)))

          clear hk64 hk65
          replace K := K.al (.cells #[.bool false, .int .i64 (q : Int), .int .i64 (j : Int), .int .i64 (2 + (y : Int)), .int .i64 (bl : Int), .string ⟨#[]⟩, .int .i64 0, .string ⟨#[]⟩] 55)
          obtain ⟨G, hG⟩ : ∃ G, w9.heap.size = G := ⟨_, rfl⟩
          rw [hG] at K
          simp only [hG]
          generalize w9.alloc (.cells #[.bool false, .int .i64 (q : Int), .int .i64 (j : Int), .int .i64 (2 + (y : Int)), .int .i64 (bl : Int), .string ⟨#[]⟩, .int .i64 0, .string ⟨#[]⟩] 55) = w10 at *
          clear hG
          obtain ⟨b0, b1, b2, b3, b4, b5, b6, b7⟩ := ev_cells (K.get 0 rfl)
          go_upto_block 2 with fail
          go_cut [] (fun wx => ∃ (sv : ByteArray) (b2 k' : Nat), b2 ≤ 2 ∧ k' ≤ k9 + 1 ∧ Env w wx [.box G (.cells #[.bool false, .int .i64 (q : Int), .int .i64 (j : Int), .int .i64 (2 + (y : Int)), .int .i64 (b2 : Int), .string sv, .int .i64 0, .string ⟨#[]⟩] 55), Env.lst VR (.slice ov j oc) j O, Env.lst VR (.slice pv p pc) p P, dieT w.heap.size g zs k'])
          case first =>
            by_cases hy0 : y = 0
            · have d1 : ((2 + (y : Int)) == 2) = true := by simp; omega
              clear hy0
              go_wp2_with (first
                | (have z9 := m4; clear z9; go_at_call 28; ((with_reducible refine (K.next 3 rfl hzl _ (by omega) (by omega)).mono ?_); rintro r9 w9 ⟨dv, k9, rfl, hdv, hk9, K9, -⟩; simp only [List.set] at K9; clear K m4; have K := K9; clear K9; have hdvb : dv ≤ 1000 := (by omega); have HVA := fun W => made_value dv W hdvb; have hkw : IntKind.i64.wrap (1 + (dv : Int)) = 1 + (dv : Int) := kwrap_one dv hdvb; have hkw2 : wrap64 (1 + (dv : Int)) = 1 + (dv : Int) := wrap_one dv hdvb))
                | (go_at_call 29; ((with_reducible refine (HVA _).mono ?_); rintro r9 w11 ⟨rfl, hb⟩; have K9 := K.on hb; clear K hb; have K := K9; clear K9; generalize (⟨(valueL (1 + dv)).toArray⟩ : ByteArray) = sv at *; clear b0 b1 b2 b3 b4 b5 b6 b7; obtain ⟨b0, b1, b2, b3, b4, b5, b6, b7⟩ := ev_cells (K.get 0 rfl); have f5 := K.free 0 rfl 5)))
              clear hkw hkw2
              have K9 := K.put1 0 rfl (cs' := #[.bool false, .int .i64 (q : Int), .int .i64 (j : Int), .int .i64 (2 + (y : Int)), .int .i64 (bl : Int), .string sv, .int .i64 0, .string ⟨#[]⟩]) 5 (.string sv) rfl rfl
              simp only [List.set] at K9
              go_meet
              exact ⟨sv, bl, _, by omega, by omega, K9⟩
            · have d1 : ((2 + (y : Int)) == 2) = false := by simp; omega
              have d2 : ¬ (2 + (y : Int)) = 2 := by omega
              by_cases hy2 : y = 2
              · have d3 : ((2 + (y : Int)) == 4) = true := by simp; omega
                clear hy2
                have f4 := K.free 0 rfl 4
                go_wp2_with fail
                have K9 := K.put1 0 rfl (cs' := #[.bool false, .int .i64 (q : Int), .int .i64 (j : Int), .int .i64 (2 + (y : Int)), .int .i64 0, .string ⟨#[]⟩, .int .i64 0, .string ⟨#[]⟩]) 4 (.int .i64 0) rfl rfl
                simp only [List.set] at K9
                go_meet
                exact ⟨⟨#[]⟩, 0, _, by omega, by omega, K9⟩
              · have d3 : ((2 + (y : Int)) == 4) = false := by simp; omega
                have d4 : ¬ (2 + (y : Int)) = 4 := by omega
                go_wp2_with fail
                go_meet
                exact ⟨⟨#[]⟩, bl, _, by omega, by omega, K⟩
          case rest =>
            clear K b0 b1 b2 b3 b4 b5 b6 b7
            obtain ⟨sv, b2, k2, hb2, hk2', K⟩ := hcut
            have HM2 : RowKit.Hid (Made (O ++ [⟨false, (q : Int), (j : Int), 2 + (y : Int), (b2 : Int), sv, 0, ⟨#[]⟩⟩]) (P ++ [⟨false, (q : Int), (j : Int), 2 + (y : Int), (b2 : Int), sv, 0, ⟨#[]⟩⟩]) ((j + 1 : Nat) : Int)) := Lib.hid (by rw [Int.natCast_add]; exact HM.out.inv rfl (by show (0 : Int) ≤ (q : Int); omega) (by show (q : Int) < 4; omega) rfl (by omega) rfl rfl ⟨by show (1 : Int) ≤ 2 + (y : Int); omega, by show 2 + (y : Int) ≤ 4; omega, by show (0 : Int) ≤ (b2 : Int); omega, by show (b2 : Int) ≤ 2; omega⟩)
            have HKN2 : RowKit.Hid (∀ x ∈ P ++ [(⟨false, (q : Int), (j : Int), 2 + (y : Int), (b2 : Int), sv, 0, ⟨#[]⟩⟩ : Ev)], 2 ≤ x.kind) := Lib.hid (fun x hx => by
              rcases List.mem_append.1 hx with h1 | h1
              · exact HKN.out x h1
              · rw [List.mem_singleton.1 h1]; show (2 : Int) ≤ 2 + (y : Int); omega)
            go_upto_region 19 with fail
            refine LTree.start (fun W => W.heap[G]? = some (.cells #[.bool false, .int .i64 (q : Int), .int .i64 (j : Int), .int .i64 (2 + (y : Int)), .int .i64 (b2 : Int), .string sv, .int .i64 0, .string ⟨#[]⟩] 55)) (.take 0 (.take 1 (.take 4 (.take 5 (.fork 2 (.fork 3 (.only 6 (.only 7 (.take 8 (.take 9 (.done))))) 6 (.only 3 (.only 7 (.take 8 (.take 9 (.done)))))) 6 (.only 2 (.only 3 (.only 7 (.take 8 (.take 9 (.done))))))))))) (by kernel_rfl) (by kernel_rfl) (by kernel_rfl) (by kernel_rfl) (K.drew.get 0 rfl) ?_
            simp only [Tree.T.map, List.getElem?_toArray, List.getElem?_cons_zero, List.getElem?_cons_succ]
            have K9 := K.drew
            clear K
            have K := K9
            clear K9
            generalize hv0 : World.drew wc = v1 at *
            clear hv0
            repeat (first | (refine LTree.take ?_ (by rfl) ?_ ?_; rotate_left; (· rintro w9 u0; go_simp; (try rw [if_neg (by omega)]); all_goals (with_reducible rfl)); simp only [Act.put, List.setIfInBounds_toArray, List.set_cons_zero, List.set_cons_succ]))
            refine LTree.take_load 55 (.tmp 9) (G) _ (by rfl) rfl (by rfl) (fun w9 h9 => h9) Tryz.underlying55 rfl ev_info ?_
            simp only [Act.put, List.setIfInBounds_toArray, List.set_cons_zero, List.set_cons_succ]
            repeat (first | (refine LTree.take ?_ (by rfl) ?_ ?_; rotate_left; (· rintro w9 u0; go_simp; (try rw [if_neg (by omega)]); all_goals (with_reducible rfl)); simp only [Act.put, List.setIfInBounds_toArray, List.set_cons_zero, List.set_cons_succ]))
            refine LTree.take_load 55 (.tmp 9) (G) _ (by rfl) rfl (by rfl) (fun w9 h9 => h9) Tryz.underlying55 rfl ev_info ?_
            simp only [Act.put, List.setIfInBounds_toArray, List.set_cons_zero, List.set_cons_succ]
            refine LTree.fork (by rfl) (by rfl) ?_ ?_
            · skip
              have K9 := K.al (.cells #[.bool false, .int .i64 (q : Int), .int .i64 (j : Int), .int .i64 (2 + (y : Int)), .int .i64 (b2 : Int), .string sv, .int .i64 0, .string ⟨#[]⟩] 55 (0, 0))
              refine (Tree.wp_make (.slice (some ⟨v1.heap.size, 0, none⟩) 1 1) (v1.alloc (.cells #[.bool false, .int .i64 (q : Int), .int .i64 (j : Int), .int .i64 (2 + (y : Int)), .int .i64 (b2 : Int), .string sv, .int .i64 0, .string ⟨#[]⟩] 55 (0, 0))) ?_ ⟨(K9.get 1 rfl), ?_⟩)
              · go_simp
              simp only [Act.put, List.setIfInBounds_toArray, List.set_cons_zero, List.set_cons_succ]
              clear K
              have K := K9
              clear K9
              generalize v1.heap.size = ga at *
              generalize v1.alloc (.cells #[.bool false, .int .i64 (q : Int), .int .i64 (j : Int), .int .i64 (2 + (y : Int)), .int .i64 (b2 : Int), .string sv, .int .i64 0, .string ⟨#[]⟩] 55 (0, 0)) = v2 at *
              refine LTree.fork (by rfl) (by rfl) ?_ ?_
              · skip
                refine (K.app_one vrOk (.tmp 83) (.tmp 85) rfl 3 0 rfl rfl (e := ⟨false, (q : Int), (j : Int), 2 + (y : Int), (b2 : Int), sv, 0, ⟨#[]⟩⟩) rfl rfl (by omega) ?_)
                intro gp cp v3 K9 _
                simp only [List.set] at K9
                refine ⟨(K9.get 1 rfl), ?_⟩
                simp only [Act.put, List.setIfInBounds_toArray, List.set_cons_zero, List.set_cons_succ]
                clear K
                have K := K9
                clear K9
                have K9 := K.al (.cells #[.bool false, .int .i64 (q : Int), .int .i64 (j : Int), .int .i64 (2 + (y : Int)), .int .i64 (b2 : Int), .string sv, .int .i64 0, .string ⟨#[]⟩] 55 (0, 0))
                refine LTree.only (by rfl) (Tree.wp_make (.slice (some ⟨v3.heap.size, 0, none⟩) 1 1) (v3.alloc (.cells #[.bool false, .int .i64 (q : Int), .int .i64 (j : Int), .int .i64 (2 + (y : Int)), .int .i64 (b2 : Int), .string sv, .int .i64 0, .string ⟨#[]⟩] 55 (0, 0))) ?_ ⟨(K9.get 2 rfl), ?_⟩)
                · go_simp
                simp only [Act.put, List.setIfInBounds_toArray, List.set_cons_zero, List.set_cons_succ]
                clear K
                have K := K9
                clear K9
                generalize v3.heap.size = gb at *
                generalize v3.alloc (.cells #[.bool false, .int .i64 (q : Int), .int .i64 (j : Int), .int .i64 (2 + (y : Int)), .int .i64 (b2 : Int), .string sv, .int .i64 0, .string ⟨#[]⟩] 55 (0, 0)) = v4 at *
                refine LTree.only (by rfl) (K.app_one vrOk (.tmp 87) (.tmp 89) rfl 3 0 rfl rfl (e := ⟨false, (q : Int), (j : Int), 2 + (y : Int), (b2 : Int), sv, 0, ⟨#[]⟩⟩) rfl rfl (by omega) ?_)
                intro go co v5 K9 _
                simp only [List.set] at K9
                refine ⟨(K9.get 2 rfl), ?_⟩
                simp only [Act.put, List.setIfInBounds_toArray, List.set_cons_zero, List.set_cons_succ]
                clear K
                have K := K9
                clear K9
                repeat (first | (refine LTree.take ?_ (by rfl) ?_ ?_; rotate_left; (· rintro w9 u0; go_simp; (try rw [if_neg (by omega)]); all_goals (with_reducible rfl)); simp only [Act.put, List.setIfInBounds_toArray, List.set_cons_zero, List.set_cons_succ]))
                refine LTree.ends ?_
                go_wp2_with fail
                have KE := K.sub [3, 4, 5] (T' := [Env.lst VR (Env.slv go (j + 1) co) (j + 1) (O ++ [⟨false, (q : Int), (j : Int), 2 + (y : Int), (b2 : Int), sv, 0, ⟨#[]⟩⟩]), Env.lst VR (Env.slv gp (p + 1) cp) (p + 1) (P ++ [⟨false, (q : Int), (j : Int), 2 + (y : Int), (b2 : Int), sv, 0, ⟨#[]⟩⟩]), dieT w.heap.size g zs k2]) rfl (by simp) (by simp)
                go_roundw
                case rel => exact ⟨j + 1, k2, O ++ [⟨false, (q : Int), (j : Int), 2 + (y : Int), (b2 : Int), sv, 0, ⟨#[]⟩⟩], P ++ [⟨false, (q : Int), (j : Int), 2 + (y : Int), (b2 : Int), sv, 0, ⟨#[]⟩⟩], by go_num, by omega, by omega, by rw [List.length_append, hO]; rfl, by rw [List.length_append, hp]; exact Nat.succ_le_succ hP, HM2, HKN2, by rw [List.length_append, hp]; exact KE⟩
                case measure => simp [intOf]; omega
              · skip
                have K9 := K.al (.cells #[.bool false, .int .i64 (q : Int), .int .i64 (j : Int), .int .i64 (2 + (y : Int)), .int .i64 (b2 : Int), .string sv, .int .i64 0, .string ⟨#[]⟩] 55 (0, 0))
                refine (Tree.wp_make (.slice (some ⟨v2.heap.size, 0, none⟩) 1 1) (v2.alloc (.cells #[.bool false, .int .i64 (q : Int), .int .i64 (j : Int), .int .i64 (2 + (y : Int)), .int .i64 (b2 : Int), .string sv, .int .i64 0, .string ⟨#[]⟩] 55 (0, 0))) ?_ ⟨(K9.get 2 rfl), ?_⟩)
                · go_simp
                simp only [Act.put, List.setIfInBounds_toArray, List.set_cons_zero, List.set_cons_succ]
                clear K
                have K := K9
                clear K9
                generalize v2.heap.size = gb at *
                generalize v2.alloc (.cells #[.bool false, .int .i64 (q : Int), .int .i64 (j : Int), .int .i64 (2 + (y : Int)), .int .i64 (b2 : Int), .string sv, .int .i64 0, .string ⟨#[]⟩] 55 (0, 0)) = v3 at *
                refine LTree.only (by rfl) (K.app_one vrOk (.tmp 83) (.tmp 85) rfl 4 1 rfl rfl (e := ⟨false, (q : Int), (j : Int), 2 + (y : Int), (b2 : Int), sv, 0, ⟨#[]⟩⟩) rfl rfl (by omega) ?_)
                intro gp cp v4 K9 _
                simp only [List.set] at K9
                refine ⟨(K9.get 2 rfl), ?_⟩
                simp only [Act.put, List.setIfInBounds_toArray, List.set_cons_zero, List.set_cons_succ]
                clear K
                have K := K9
                clear K9
                refine LTree.only (by rfl) (K.app_one vrOk (.tmp 87) (.tmp 89) rfl 3 0 rfl rfl (e := ⟨false, (q : Int), (j : Int), 2 + (y : Int), (b2 : Int), sv, 0, ⟨#[]⟩⟩) rfl rfl (by omega) ?_)
                intro go co v5 K9 _
                simp only [List.set] at K9
                refine ⟨(K9.get 2 rfl), ?_⟩
                simp only [Act.put, List.setIfInBounds_toArray, List.set_cons_zero, List.set_cons_succ]
                clear K
                have K := K9
                clear K9
                repeat (first | (refine LTree.take ?_ (by rfl) ?_ ?_; rotate_left; (· rintro w9 u0; go_simp; (try rw [if_neg (by omega)]); all_goals (with_reducible rfl)); simp only [Act.put, List.setIfInBounds_toArray, List.set_cons_zero, List.set_cons_succ]))
                refine LTree.ends ?_
                go_wp2_with fail
                have KE := K.sub [3, 4, 5] (T' := [Env.lst VR (Env.slv go (j + 1) co) (j + 1) (O ++ [⟨false, (q : Int), (j : Int), 2 + (y : Int), (b2 : Int), sv, 0, ⟨#[]⟩⟩]), Env.lst VR (Env.slv gp (p + 1) cp) (p + 1) (P ++ [⟨false, (q : Int), (j : Int), 2 + (y : Int), (b2 : Int), sv, 0, ⟨#[]⟩⟩]), dieT w.heap.size g zs k2]) rfl (by simp) (by simp)
                go_roundw
                case rel => exact ⟨j + 1, k2, O ++ [⟨false, (q : Int), (j : Int), 2 + (y : Int), (b2 : Int), sv, 0, ⟨#[]⟩⟩], P ++ [⟨false, (q : Int), (j : Int), 2 + (y : Int), (b2 : Int), sv, 0, ⟨#[]⟩⟩], by go_num, by omega, by omega, by rw [List.length_append, hO]; rfl, by rw [List.length_append, hp]; exact Nat.succ_le_succ hP, HM2, HKN2, by rw [List.length_append, hp]; exact KE⟩
                case measure => simp [intOf]; omega
            · skip
              have K9 := K.al (.cells #[.bool false, .int .i64 (q : Int), .int .i64 (j : Int), .int .i64 (2 + (y : Int)), .int .i64 (b2 : Int), .string sv, .int .i64 0, .string ⟨#[]⟩] 55 (0, 0))
              refine (Tree.wp_make (.slice (some ⟨v1.heap.size, 0, none⟩) 1 1) (v1.alloc (.cells #[.bool false, .int .i64 (q : Int), .int .i64 (j : Int), .int .i64 (2 + (y : Int)), .int .i64 (b2 : Int), .string sv, .int .i64 0, .string ⟨#[]⟩] 55 (0, 0))) ?_ ⟨(K9.get 1 rfl), ?_⟩)
              · go_simp
              simp only [Act.put, List.setIfInBounds_toArray, List.set_cons_zero, List.set_cons_succ]
              clear K
              have K := K9
              clear K9
              generalize v1.heap.size = gb at *
              generalize v1.alloc (.cells #[.bool false, .int .i64 (q : Int), .int .i64 (j : Int), .int .i64 (2 + (y : Int)), .int .i64 (b2 : Int), .string sv, .int .i64 0, .string ⟨#[]⟩] 55 (0, 0)) = v2 at *
              have K9 := K.al (.cells #[.bool false, .int .i64 (q : Int), .int .i64 (j : Int), .int .i64 (2 + (y : Int)), .int .i64 (b2 : Int), .string sv, .int .i64 0, .string ⟨#[]⟩] 55 (0, 0))
              refine LTree.only (by rfl) (Tree.wp_make (.slice (some ⟨v2.heap.size, 0, none⟩) 1 1) (v2.alloc (.cells #[.bool false, .int .i64 (q : Int), .int .i64 (j : Int), .int .i64 (2 + (y : Int)), .int .i64 (b2 : Int), .string sv, .int .i64 0, .string ⟨#[]⟩] 55 (0, 0))) ?_ ⟨(K9.get 2 rfl), ?_⟩)
              · go_simp
              simp only [Act.put, List.setIfInBounds_toArray, List.set_cons_zero, List.set_cons_succ]
              clear K
              have K := K9
              clear K9
              generalize v2.heap.size = ga at *
              generalize v2.alloc (.cells #[.bool false, .int .i64 (q : Int), .int .i64 (j : Int), .int .i64 (2 + (y : Int)), .int .i64 (b2 : Int), .string sv, .int .i64 0, .string ⟨#[]⟩] 55 (0, 0)) = v3 at *
              refine LTree.only (by rfl) (K.app_one vrOk (.tmp 83) (.tmp 85) rfl 4 0 rfl rfl (e := ⟨false, (q : Int), (j : Int), 2 + (y : Int), (b2 : Int), sv, 0, ⟨#[]⟩⟩) rfl rfl (by omega) ?_)
              intro gp cp v4 K9 _
              simp only [List.set] at K9
              refine ⟨(K9.get 2 rfl), ?_⟩
              simp only [Act.put, List.setIfInBounds_toArray, List.set_cons_zero, List.set_cons_succ]
              clear K
              have K := K9
              clear K9
              refine LTree.only (by rfl) (K.app_one vrOk (.tmp 87) (.tmp 89) rfl 3 1 rfl rfl (e := ⟨false, (q : Int), (j : Int), 2 + (y : Int), (b2 : Int), sv, 0, ⟨#[]⟩⟩) rfl rfl (by omega) ?_)
              intro go co v5 K9 _
              simp only [List.set] at K9
              refine ⟨(K9.get 2 rfl), ?_⟩
              simp only [Act.put, List.setIfInBounds_toArray, List.set_cons_zero, List.set_cons_succ]
              clear K
              have K := K9
              clear K9
              repeat (first | (refine LTree.take ?_ (by rfl) ?_ ?_; rotate_left; (· rintro w9 u0; go_simp; (try rw [if_neg (by omega)]); all_goals (with_reducible rfl)); simp only [Act.put, List.setIfInBounds_toArray, List.set_cons_zero, List.set_cons_succ]))
              refine LTree.ends ?_
              go_wp2_with fail
              have KE := K.sub [3, 4, 5] (T' := [Env.lst VR (Env.slv go (j + 1) co) (j + 1) (O ++ [⟨false, (q : Int), (j : Int), 2 + (y : Int), (b2 : Int), sv, 0, ⟨#[]⟩⟩]), Env.lst VR (Env.slv gp (p + 1) cp) (p + 1) (P ++ [⟨false, (q : Int), (j : Int), 2 + (y : Int), (b2 : Int), sv, 0, ⟨#[]⟩⟩]), dieT w.heap.size g zs k2]) rfl (by simp) (by simp)
              go_roundw
              case rel => exact ⟨j + 1, k2, O ++ [⟨false, (q : Int), (j : Int), 2 + (y : Int), (b2 : Int), sv, 0, ⟨#[]⟩⟩], P ++ [⟨false, (q : Int), (j : Int), 2 + (y : Int), (b2 : Int), sv, 0, ⟨#[]⟩⟩], by go_num, by omega, by omega, by rw [List.length_append, hO]; rfl, by rw [List.length_append, hp]; exact Nat.succ_le_succ hP, HM2, HKN2, by rw [List.length_append, hp]; exact KE⟩
              case measure => simp [intOf]; omega
        · have hp0 := hb rfl
          clear hb
          obtain ⟨pg, pc9, hpe⟩ := K.val vrOk 1 rfl hp0
          obtain ⟨rfl, -, rfl⟩ : pv = some ⟨pg, 0, none⟩ ∧ p = p ∧ pc = pc9 := by cases hpe; exact ⟨rfl, rfl, rfl⟩
          clear hpe
          have hp0I : (0 : Int) < (p : Int) := by omega
          have m1 : True := trivial
          have m2 : True := trivial
          have HPK := Lib.hid (fun ik (h : ik < p) => (⟨_, List.getElem?_eq_getElem (by omega)⟩ : ∃ e, P[ik]? = some e))
          go_upto_region 9 with (first
            | (have z9 := m1; clear z9; go_at_call 28; ((with_reducible refine (K.next 2 rfl hzl _ (by omega) (by omega)).mono ?_); rintro r9 w9 ⟨ik, k9, rfl, hik, hk9, K9, -⟩; simp only [List.set] at K9; clear K m1; have K := K9; clear K9; have hik : ik < p := (by omega); obtain ⟨e, he⟩ := HPK.out ik hik; have HCL := HM.out.calls_clean he; have hkn := HKN.out e (List.mem_of_getElem? he); have HE := Lib.hid he; have hc := fun f u (hu : (VR.c e)[f]? = some u) => (K.ownF vrOk 1 rfl (k := ik) (f := f) he hu).1; obtain ⟨er, eq, es, ek, eb, ed, ee, ex⟩ := e; obtain ⟨h1, h2, h3, h4, h5⟩ := HCL; simp only at h1 h2 h3 h4 h5 hkn; subst h1; subst h2; have z0 := hc 0 _ rfl; have z1 := hc 1 _ rfl; have z2 := hc 2 _ rfl; have z3 := hc 3 _ rfl; have z4 := hc 4 _ rfl; have z5 := hc 5 _ rfl; have z6 := hc 6 _ rfl; have z7 := hc 7 _ rfl; simp only [show VR.sz = 8 from rfl, Nat.add_zero] at z0 z1 z2 z3 z4 z5 z6 z7; have HRT := Lib.hid (fun W => durReturned_any ⟨false, eq, es, ek, eb, ed, 0, ex⟩ W); clear hc he))
            | (go_at_call 60; ((with_reducible refine (HRT.out _).mono ?_); rintro r9 w11 ⟨rfl, hb⟩; have K9 := K.on hb; clear K hb z0 z1 z2 z3 z4 z5 z6 z7 HRT; have K := K9; clear K9)))
          replace K := K.al (.cells #[.bool true, .int .i64 eq, .int .i64 es, .int .i64 ek, .int .i64 eb, .string ed, .int .i64 0, .string ex] 55)
          obtain ⟨G, hG⟩ : ∃ G, w11.heap.size = G := ⟨_, rfl⟩
          rw [hG] at K
          simp only [hG]
          generalize w11.alloc (.cells #[.bool true, .int .i64 eq, .int .i64 es, .int .i64 ek, .int .i64 eb, .string ed, .int .i64 0, .string ex] 55) = w10 at *
          clear hG
          obtain ⟨b0, b1, b2, b3, b4, b5, b6, b7⟩ := ev_cells (K.get 0 rfl)
          have f6 := K.free 0 rfl 6
          go_upto_if 41 with (first
            | (have z9 := m2; clear z9; go_at_call 28; ((with_reducible refine (K.next 3 rfl hzl _ (by omega) (by omega)).mono ?_); rintro r9 w9 ⟨y6, k9, rfl, hy6, hk9, K9, -⟩; simp only [List.set] at K9; clear K m2; have K := K9; clear K9; clear b0 b1 b2 b3 b4 b5 b6 b7 f6; obtain ⟨b0, b1, b2, b3, b4, b5, b6, b7⟩ := ev_cells (K.get 0 rfl); have f6 := K.free 0 rfl 6)))
          go_cut [] (fun wx => ∃ (e2 : Int) (x2 : ByteArray) (k' : Nat), fitsB ek e2 x2.size = true ∧ k' ≤ k9 + 1 ∧ Env w wx [.box G (.cells #[.bool true, .int .i64 eq, .int .i64 es, .int .i64 ek, .int .i64 eb, .string ed, .int .i64 e2, .string x2] 55), Env.lst VR (.slice ov j oc) j O, Env.lst VR (.slice (some ⟨pg, 0, none⟩) p pc) p P, dieT w.heap.size g zs k'])
          case first =>
            by_cases hy5 : y6 = 7
            · have d1 : ((y6 : Int) == 7) = true := by simp; omega
              have d2 : (y6 : Int) = 7 := by omega
              go_wp2_with fail
              have K9 := K.put1 0 rfl (cs' := #[.bool true, .int .i64 eq, .int .i64 es, .int .i64 ek, .int .i64 eb, .string ed, .int .i64 7, .string ex]) 6 (.int .i64 7) rfl rfl
              simp only [List.set] at K9
              go_meet
              exact ⟨7, ex, k9, by simp [fitsB, h3], by omega, K9⟩
            · have d1 : ((y6 : Int) == 7) = false := by simp; omega
              have d2 : ¬ (y6 : Int) = 7 := by omega
              go_wp2_with fail
              go_meet
              exact ⟨0, ex, k9, by have hk1 : ¬ ek = 1 := (by omega); simp [fitsB, hk1, h3], by omega, K⟩
          case rest =>
            clear K b0 b1 b2 b3 b4 b5 b6 b7 f6
            obtain ⟨e2, x2, k2, hf2, hk2', K⟩ := hcut
            have KB := K.al (.cells #[.bool true, .int .i64 eq, .int .i64 es, .int .i64 ek, .int .i64 eb, .string ed, .int .i64 e2, .string x2] 55)
            go_upto_region 12 with (first
              | ((with_reducible refine Plan.load_lit 55 (.tmp 8) G ?_ (K.get 0 rfl) Tryz.underlying55 ?_ ?_ ?_); (· rfl); (· rfl); (· exact ev_info); simp only [Act.put, List.setIfInBounds_toArray, List.set_cons_zero, List.set_cons_succ])
              | (refine KB.apps_one vrOk rfl (.tmp 44) (.tmp 46) rfl 2 0 rfl rfl (e := ⟨true, eq, es, ek, eb, ed, e2, x2⟩) rfl rfl (by omega) ?_; intro go co w3 K8 k8; simp only [List.set] at K8 k8; simp only [Act.put, List.setIfInBounds_toArray, List.set_cons_zero, List.set_cons_succ]; clear KB K k8))
            have K := K8.drew
            clear K8
            obtain ⟨ik1, hik1⟩ : ∃ ik1, ik1 = ik + 1 := ⟨_, rfl⟩
            have hl := K.list vrOk 3 rfl
            have hikp : ik ≤ p := by omega
            have hik1p : ik1 ≤ p := by omega
            obtain ⟨hcp, hcm⟩ := hl.cap
            unfold maxLen at hcm
            have hikc : ik ≤ pc := by omega
            have hik1c : ik1 ≤ pc := by omega
            have hlenQ : (P.take ik ++ P.drop ik1).length = ik + (p - ik1) := by rw [List.length_append, List.length_take, List.length_drop, hp]; omega
            have HLQ := Lib.hid hlenQ
            have HB1 := Lib.hid (And.intro (by omega) (by omega) : ik ≤ 1000000 ∧ ik + (p - ik1) ≤ 1000000)
            have HMQ : RowKit.Hid (Made (O ++ [(⟨true, eq, es, ek, eb, ed, e2, x2⟩ : Ev)]) (P.take ik ++ P.drop ik1) ((j + 1 : Nat) : Int)) := Lib.hid (by
              rw [hik1]
              exact HM.out.ret (x := ⟨true, eq, es, ek, eb, ed, e2, x2⟩) HE.out rfl rfl rfl rfl rfl rfl hf2 _ (by omega))
            have HQ9 := Lib.hid (show ik + (p - ik1) ≤ j + 1 by omega)
            have HK9 := Lib.hid (show k2 ≤ 8 * (j + 1) by omega)
            have HJ9 := Lib.hid (show j + 1 ≤ 50 by omega)
            have HO9 := Lib.hid (show (O ++ [(⟨true, eq, es, ek, eb, ed, e2, x2⟩ : Ev)]).length = j + 1 by rw [List.length_append, hO]; rfl)
            have hle1 : (ik1 : Int) ≤ (p : Int) := by omega
            have hw1 : IntKind.i64.wrap ((ik : Int) + 1) = (ik1 : Int) := by rw [IntWalk.i64_in _ (by omega)]; omega
            have hw2 : wrap64 ((ik : Int) + 1) = (ik1 : Int) := by clear hw1; unfold wrap64; omega
            have HKN2 : RowKit.Hid (∀ x ∈ P.take ik ++ P.drop ik1, 2 ≤ x.kind) := Lib.hid (fun x hx => by
              rcases List.mem_append.1 hx with h9 | h9
              · exact HKN.out x (List.mem_of_mem_take h9)
              · exact HKN.out x (List.mem_of_mem_drop h9))
            clear hkn HKN hik1 hl hO hP hj hk hik hk1 hk2' hf2 h3 h4 h5 hk2 hj2 hlenQ HM HE HPK hp
            by_cases hpc : pc = ik1
            · obtain rfl : p = pc := (by clear hw1 hw2; omega)
              subst hpc
              simp only [Nat.sub_self, Nat.add_zero] at HLQ HQ9 HB1
              refine Plan.start (fun W => True) [(1, true), (2, true), (3, true), (5, true), (6, true), (7, true), (8, true), (0, false), (4, false), (9, false), (10, true)] (by kernel_rfl) (by kernel_rfl) (by kernel_rfl) (by kernel_rfl) trivial ?_
              simp only [List.map_cons, List.map_nil, List.getElem?_toArray, List.getElem?_cons_zero, List.getElem?_cons_succ]
              generalize World.drew _ = w4 at *
              repeat (first | (refine Plan.take ?_ (by rfl) ?_ ?_; rotate_left; (· rintro w9 -; go_simp; (try rw [if_neg (by omega)]); all_goals (with_reducible rfl)); simp only [Act.put, List.setIfInBounds_toArray, List.set_cons_zero, List.set_cons_succ]) | (refine Plan.pass (by rfl) ?_; simp only [Act.put, List.setIfInBounds_toArray, List.set_cons_zero, List.set_cons_succ]))
              have K9 : Env w (w4.alloc (.cells #[] 55)) (Env.lst VR (Env.slv w4.heap.size 0 0) 0 [] :: _) := K.empty VR
              refine Plan.make (by rfl) (.slice (some ⟨w4.heap.size, 0, none⟩) 0 0) (w4.alloc (.cells #[] 55)) ?_ trivial ?_
              · go_simp
              simp only [Act.put, List.setIfInBounds_toArray, List.set_cons_zero, List.set_cons_succ]
              clear K
              have K := K9
              clear K9
              generalize w4.heap.size = gC at *
              generalize w4.alloc (.cells #[] 55) = w5 at *
              refine Plan.carry (by rfl) (K.app_list vrOk (.tmp 48) (.tmp 51) rfl 0 rfl rfl rfl ((K.list vrOk 4 rfl).front vrOk ik hikp) (by rw [Nat.zero_add]; exact HB1.out.1) ?_)
              intro gC cC w6 K9 _
              simp only [List.set, Nat.zero_add, List.nil_append] at K9
              refine ⟨trivial, ?_⟩
              simp only [Nat.zero_add, Act.put, List.setIfInBounds_toArray, List.set_cons_zero, List.set_cons_succ]
              clear K
              have K := K9
              clear K9
              refine Plan.carry (by rfl) (K.app_list vrOk (.tmp 52) (.tmp 56) rfl 0 rfl rfl rfl ((show TList VR _ (fun b => w.heap.size ≤ b) (some ⟨pg, 0, none⟩) 0 0 (P.drop p) from by have h9 := rest_list vrOk (K.list vrOk 4 rfl) (Nat.le_refl p) hp0; rw [if_pos rfl, Nat.sub_self] at h9; exact h9)) HB1.out.2 ?_)
              intro gD cD w7 K9 _
              simp only [List.set] at K9
              refine ⟨trivial, ?_⟩
              simp only [Act.put, List.setIfInBounds_toArray, List.set_cons_zero, List.set_cons_succ]
              clear K
              have K := K9
              clear K9
              repeat (first | (refine Plan.take ?_ (by rfl) ?_ ?_; rotate_left; (· rintro w9 -; go_simp; (try rw [if_neg (by omega)]); all_goals (with_reducible rfl)); simp only [Act.put, List.setIfInBounds_toArray, List.set_cons_zero, List.set_cons_succ]) | (refine Plan.pass (by rfl) ?_; simp only [Act.put, List.setIfInBounds_toArray, List.set_cons_zero, List.set_cons_succ]))
              refine Plan.ends ?_
              go_wp2_with fail
              have KE := K.sub (T' := [Env.lst VR (Env.slv go (j + 1) co) (j + 1) (O ++ [⟨true, eq, es, ek, eb, ed, e2, x2⟩]), Env.lst VR (Env.slv gD (ik) cD) (ik) (P.take ik ++ P.drop p), dieT w.heap.size g zs k2]) [3, 0, 5] rfl (by simp) (by simp)
              go_roundw
              case rel => exact ⟨j + 1, k2, O ++ [⟨true, eq, es, ek, eb, ed, e2, x2⟩], P.take ik ++ P.drop p, by go_num, HJ9.out, HK9.out, HO9.out, by rw [HLQ.out]; exact HQ9.out, HMQ, HKN2, by rw [HLQ.out]; exact KE⟩
              case measure => simp [intOf]; omega
            · have hpc2 : ik1 < pc := (by clear hw1 hw2; omega)
              refine Plan.start (fun W => True) [(1, true), (2, true), (3, true), (5, true), (6, true), (7, true), (8, true), (0, false), (4, false), (9, false), (10, true)] (by kernel_rfl) (by kernel_rfl) (by kernel_rfl) (by kernel_rfl) trivial ?_
              simp only [List.map_cons, List.map_nil, List.getElem?_toArray, List.getElem?_cons_zero, List.getElem?_cons_succ]
              generalize World.drew _ = w4 at *
              repeat (first | (refine Plan.take ?_ (by rfl) ?_ ?_; rotate_left; (· rintro w9 -; go_simp; (try rw [if_neg (by omega)]); all_goals (with_reducible rfl)); simp only [Act.put, List.setIfInBounds_toArray, List.set_cons_zero, List.set_cons_succ]) | (refine Plan.pass (by rfl) ?_; simp only [Act.put, List.setIfInBounds_toArray, List.set_cons_zero, List.set_cons_succ]))
              have K9 : Env w (w4.alloc (.cells #[] 55)) (Env.lst VR (Env.slv w4.heap.size 0 0) 0 [] :: _) := K.empty VR
              refine Plan.make (by rfl) (.slice (some ⟨w4.heap.size, 0, none⟩) 0 0) (w4.alloc (.cells #[] 55)) ?_ trivial ?_
              · go_simp
              simp only [Act.put, List.setIfInBounds_toArray, List.set_cons_zero, List.set_cons_succ]
              clear K
              have K := K9
              clear K9
              generalize w4.heap.size = gC at *
              generalize w4.alloc (.cells #[] 55) = w5 at *
              refine Plan.carry (by rfl) (K.app_list vrOk (.tmp 48) (.tmp 51) rfl 0 rfl rfl rfl ((K.list vrOk 4 rfl).front vrOk ik hikp) (by rw [Nat.zero_add]; exact HB1.out.1) ?_)
              intro gC cC w6 K9 _
              simp only [List.set, Nat.zero_add, List.nil_append] at K9
              refine ⟨trivial, ?_⟩
              simp only [Nat.zero_add, Act.put, List.setIfInBounds_toArray, List.set_cons_zero, List.set_cons_succ]
              clear K
              have K := K9
              clear K9
              refine Plan.carry (by rfl) (K.app_list vrOk (.tmp 52) (.tmp 56) rfl 0 rfl rfl rfl ((show TList VR _ (fun b => w.heap.size ≤ b) (some ⟨pg, ik1 * 8, none⟩) (p - ik1) (pc - ik1) (P.drop ik1) from by have h9 := rest_list vrOk (K.list vrOk 4 rfl) hik1p hp0; rwa [if_neg hpc] at h9)) HB1.out.2 ?_)
              intro gD cD w7 K9 _
              simp only [List.set] at K9
              refine ⟨trivial, ?_⟩
              simp only [Act.put, List.setIfInBounds_toArray, List.set_cons_zero, List.set_cons_succ]
              clear K
              have K := K9
              clear K9
              repeat (first | (refine Plan.take ?_ (by rfl) ?_ ?_; rotate_left; (· rintro w9 -; go_simp; (try rw [if_neg (by omega)]); all_goals (with_reducible rfl)); simp only [Act.put, List.setIfInBounds_toArray, List.set_cons_zero, List.set_cons_succ]) | (refine Plan.pass (by rfl) ?_; simp only [Act.put, List.setIfInBounds_toArray, List.set_cons_zero, List.set_cons_succ]))
              refine Plan.ends ?_
              go_wp2_with fail
              have KE := K.sub (T' := [Env.lst VR (Env.slv go (j + 1) co) (j + 1) (O ++ [⟨true, eq, es, ek, eb, ed, e2, x2⟩]), Env.lst VR (Env.slv gD (ik + (p - ik1)) cD) (ik + (p - ik1)) (P.take ik ++ P.drop ik1), dieT w.heap.size g zs k2]) [3, 0, 5] rfl (by simp) (by simp)
              go_roundw
              case rel => exact ⟨j + 1, k2, O ++ [⟨true, eq, es, ek, eb, ed, e2, x2⟩], P.take ik ++ P.drop ik1, by go_num, HJ9.out, HK9.out, HO9.out, by rw [HLQ.out]; exact HQ9.out, HMQ, HKN2, by rw [HLQ.out]; exact KE⟩
              case measure => simp [intOf]; omega
    · have ovn : ∃ a c, u4 = .slice a j c := by
        obtain ⟨a, c, e, _⟩ := K.any vrOk 0 rfl
        exact ⟨a, c, e⟩
      obtain ⟨ov, oc, rfl⟩ := ovn
      by_cases hk2 : k < zs.length
      · have hj2 : ¬ (j : Int) < 50 := by omega
        have hj3 : decide ((j : Int) < 50) = false := decide_eq_false hj2
        have hM : 0 < max (0 : Int) ((zs.length : Int) - (k : Int)) := by rw [Int.max_eq_right (by omega)]; omega
        generalize max (0 : Int) ((zs.length : Int) - (k : Int)) = M at *
        clear hgo
        go_wp2_with (first
          | (go_at_call 27; ((with_reducible refine (HD.out _ (K.die 2 rfl)).mono ?_); rintro r9 w5 ⟨rfl, rfl⟩; replace K := K.drew)))
        go_ret
        first | exact ⟨_, O, rfl, (by rw [hO]; exact K.own 0 rfl), K.hb, HM.out.right, (by omega), low_of HM.out (by omega)⟩ | exact ⟨_, rfl, O, (by rw [hO]; exact K.own 0 rfl), K.hb, HM.out.right, (by omega), low_of HM.out (by omega)⟩
      · have hM : ¬ 0 < max (0 : Int) ((zs.length : Int) - (k : Int)) := by rw [Int.max_eq_left (by omega)]; omega
        generalize max (0 : Int) ((zs.length : Int) - (k : Int)) = M at *
        clear hgo
        go_wp2_with (first
          | (go_at_call 27; ((with_reducible refine (HD.out _ (K.die 2 rfl)).mono ?_); rintro r9 w5 ⟨rfl, rfl⟩; replace K := K.drew)))
        go_ret
        first | exact ⟨_, O, rfl, (by rw [hO]; exact K.own 0 rfl), K.hb, HM.out.right, (by omega), low_of HM.out (by omega)⟩ | exact ⟨_, rfl, O, (by rw [hO]; exact K.own 0 rfl), K.hb, HM.out.right, (by omega), low_of HM.out (by omega)⟩
end Go.Proofs.YtnmhnjjehglcfaaGreat.Ents

/- The sanity check of the laws of layer 20, and the law DurableRaw. -/
namespace Go.Proofs.YtnmhnjjehglcfaaGreat.Ents
open Go.RowKit Plan HisMath LinMath DurMath ModMath CmdMath Rws Env LayMath
set_option maxHeartbeats 8000000 in
set_option maxRecDepth 20000 in
theorem durAwake_any (H : DurableOk) (w : World) : Calls Tryz.prog 31 #[] w fun r w' => r = .returned (.bool true) ∧ Below w.heap.size w w' := by
  have HV1 := Lib.hid (fun W => (show Calls Tryz.prog 29 #[.int .i64 1] W fun e w' => e = .returned (.string ⟨(valueL 1).toArray⟩) ∧ Below W.heap.size W w' from value_any 1 (by decide) W))
  have HV2 := Lib.hid (fun W => (show Calls Tryz.prog 29 #[.int .i64 2] W fun e w' => e = .returned (.string ⟨(valueL 2).toArray⟩) ∧ Below W.heap.size W w' from value_any 2 (by decide) W))
  obtain ⟨a, ha⟩ : ∃ v : ByteArray, v = ⟨(valueL 1).toArray⟩ := ⟨_, rfl⟩
  obtain ⟨b, hb⟩ : ∃ v : ByteArray, v = ⟨(valueL 2).toArray⟩ := ⟨_, rfl⟩
  have hab : lessB a b = true := by rw [ha, hb]; exact val_less
  have haz : a ≠ zeroC := by rw [ha]; exact val_ne.1
  have hbz : b ≠ zeroC := by rw [hb]; exact val_ne.2
  rw [← ha] at HV1
  rw [← hb] at HV2
  clear ha hb
  have HAL := Lib.hid (dw_allow (z := zeroC) rfl hab)
  have HY := Lib.hid (dw_yes (z := zeroC) rfl hab)
  have HN := Lib.hid (dw_no (z := zeroC) rfl hab haz hbz)
  have HRX := Lib.hid (fun W => (show Calls Tryz.prog 60 #[.agg #[.bool false, .int .i64 0, .int .i64 0, .int .i64 2, .int .i64 0, .string a, .int .i64 0, .string ⟨#[]⟩]] W fun r w' => r = .returned (.agg #[.bool true, .int .i64 0, .int .i64 0, .int .i64 2, .int .i64 0, .string a, .int .i64 0, .string ⟨#[]⟩]) ∧ Below W.heap.size W w' from durReturned_any (dwX false a) W))
  have HRF := Lib.hid (fun W => (show Calls Tryz.prog 60 #[.agg #[.bool false, .int .i64 0, .int .i64 1, .int .i64 4, .int .i64 0, .string ⟨#[]⟩, .int .i64 0, .string ⟨#[]⟩]] W fun r w' => r = .returned (.agg #[.bool true, .int .i64 0, .int .i64 1, .int .i64 4, .int .i64 0, .string ⟨#[]⟩, .int .i64 0, .string ⟨#[]⟩]) ∧ Below W.heap.size W w' from durReturned_any (dwF false) W))
  have HA := Lib.hid (fun W F G a2 c2 a3 d (hl : SList W F a2 1 c2 [zeroC]) (hk : VList W G a3 5 d (dwH a b)) => H.allowed F G [zeroC] (dwH a b) 0 a2 a3 1 c2 5 d W hl hk (by decide) (by decide))
  have HC := Lib.hid (fun W F G I X a2 c2 a3 d a4 q (hl : SList W F a2 1 c2 [zeroC]) (hk : VList W G a3 5 d (dwH a b)) (hx : SList W I a4 1 q X) => H.check F G I [zeroC] (dwH a b) X a2 a3 a4 1 c2 5 d 1 q W hl hk hx (by decide) (by decide) (by decide))
  rw [HAL.out] at HA
  unfold SPost at HA
  have hm := fun W => made16 W
  have hc := fun W => conv16 W
  have haa : (a == a) = true := (MapKept.bytes_beq a a).2 rfl
  have hbb : (b == b) = true := (MapKept.bytes_beq b b).2 rfl
  have K := Env.start w
  clear HAL hab haz hbz
  generalize zeroC = z at *
  go_enter Tryz.func31, Tryz.ntmps31
  go_upto_region 2 with fail
  clear hm hc
  replace K := K.al' (.cells (madeCells #[.int .u8 0] 16) 5)
  generalize w.alloc (.cells (madeCells #[.int .u8 0] 16) 5) = w0 at *
  go_upto_region 3 with (first
    | (go_at_call 29; ((with_reducible refine (HV1.out _).mono ?_); rintro r9 w1 ⟨rfl, h9⟩; replace K := K.on h9; clear h9))
    | (go_at_call 29; ((with_reducible refine (HV2.out _).mono ?_); rintro r9 w2 ⟨rfl, h9⟩; replace K := K.on h9; clear h9)))
  go_upto_region 4 with fail
  replace K := K.al (.cells #[.bool false, .int .i64 0, .int .i64 0, .int .i64 2, .int .i64 0, .string a, .int .i64 0, .string ⟨#[]⟩] 55)
  obtain ⟨gx, hg⟩ : ∃ gx, w2.heap.size = gx := ⟨_, rfl⟩
  rw [hg] at K
  simp only [hg]
  generalize w2.alloc (.cells #[.bool false, .int .i64 0, .int .i64 0, .int .i64 2, .int .i64 0, .string a, .int .i64 0, .string ⟨#[]⟩] 55) = w3 at *
  clear hg
  go_upto_region 5 with fail
  replace K := K.al (.cells #[.bool false, .int .i64 0, .int .i64 1, .int .i64 4, .int .i64 0, .string ⟨#[]⟩, .int .i64 0, .string ⟨#[]⟩] 55)
  obtain ⟨gf, hg⟩ : ∃ gf, w3.heap.size = gf := ⟨_, rfl⟩
  rw [hg] at K
  simp only [hg]
  generalize w3.alloc (.cells #[.bool false, .int .i64 0, .int .i64 1, .int .i64 4, .int .i64 0, .string ⟨#[]⟩, .int .i64 0, .string ⟨#[]⟩] 55) = w4 at *
  clear hg
  go_upto_region 6 with fail
  replace K := K.al (.cells #[.bool false, .int .i64 0, .int .i64 2, .int .i64 2, .int .i64 0, .string b, .int .i64 0, .string ⟨#[]⟩] 55)
  obtain ⟨gy, hg⟩ : ∃ gy, w4.heap.size = gy := ⟨_, rfl⟩
  rw [hg] at K
  simp only [hg]
  generalize w4.alloc (.cells #[.bool false, .int .i64 0, .int .i64 2, .int .i64 2, .int .i64 0, .string b, .int .i64 0, .string ⟨#[]⟩] 55) = w5 at *
  clear hg
  refine Plan.start (fun W => W.heap[gx]? = some (.cells #[.bool false, .int .i64 0, .int .i64 0, .int .i64 2, .int .i64 0, .string a, .int .i64 0, .string ⟨#[]⟩] 55 (0, 0)) ∧ W.heap[gf]? = some (.cells #[.bool false, .int .i64 0, .int .i64 1, .int .i64 4, .int .i64 0, .string ⟨#[]⟩, .int .i64 0, .string ⟨#[]⟩] 55 (0, 0)) ∧ W.heap[gy]? = some (.cells #[.bool false, .int .i64 0, .int .i64 2, .int .i64 2, .int .i64 0, .string b, .int .i64 0, .string ⟨#[]⟩] 55 (0, 0))) [(0, true), (1, true), (3, true), (4, true), (6, true), (2, false), (5, false), (7, false), (8, true)] (by kernel_rfl) (by kernel_rfl) (by kernel_rfl) (by kernel_rfl) ⟨K.drew.get 2 rfl, K.drew.get 1 rfl, K.drew.get 0 rfl⟩ ?_
  simp only [List.map_cons, List.map_nil, List.getElem?_toArray, List.getElem?_cons_zero, List.getElem?_cons_succ]
  replace K := K.drew
  generalize World.drew _ = w6 at *
  refine Plan.take_load 55 (.tmp 4) gx _ (by rfl) rfl (by rfl) (fun w9 h9 => h9.1) Tryz.underlying55 rfl ev_info ?_
  simp only [Act.put, List.setIfInBounds_toArray, List.set_cons_zero, List.set_cons_succ]
  refine Plan.take_load 55 (.tmp 4) gx _ (by rfl) rfl (by rfl) (fun w9 h9 => h9.1) Tryz.underlying55 rfl ev_info ?_
  simp only [Act.put, List.setIfInBounds_toArray, List.set_cons_zero, List.set_cons_succ]
  refine Plan.take_load 55 (.tmp 5) gf _ (by rfl) rfl (by rfl) (fun w9 h9 => h9.2.1) Tryz.underlying55 rfl ev_info ?_
  simp only [Act.put, List.setIfInBounds_toArray, List.set_cons_zero, List.set_cons_succ]
  refine Plan.take_load 55 (.tmp 5) gf _ (by rfl) rfl (by rfl) (fun w9 h9 => h9.2.1) Tryz.underlying55 rfl ev_info ?_
  simp only [Act.put, List.setIfInBounds_toArray, List.set_cons_zero, List.set_cons_succ]
  refine Plan.take_load 55 (.tmp 6) gy _ (by rfl) rfl (by rfl) (fun w9 h9 => h9.2.2) Tryz.underlying55 rfl ev_info ?_
  simp only [Act.put, List.setIfInBounds_toArray, List.set_cons_zero, List.set_cons_succ]
  refine Plan.call (by rfl) 60 _ ?_ (HRX.out _) ?_
  · go_simp
  rintro r9 w8 ⟨rfl, h9⟩
  replace K := K.on h9
  clear h9
  refine ⟨_, rfl, ⟨K.get 2 rfl, K.get 1 rfl, K.get 0 rfl⟩, ?_⟩
  simp only [Act.put, List.setIfInBounds_toArray, List.set_cons_zero, List.set_cons_succ]
  refine Plan.call (by rfl) 60 _ ?_ (HRF.out _) ?_
  · go_simp
  rintro r9 w9 ⟨rfl, h9⟩
  replace K := K.on h9
  clear h9
  refine ⟨_, rfl, ⟨K.get 2 rfl, K.get 1 rfl, K.get 0 rfl⟩, ?_⟩
  simp only [Act.put, List.setIfInBounds_toArray, List.set_cons_zero, List.set_cons_succ]
  have K9 := K.al (.cells #[.bool false, .int .i64 0, .int .i64 0, .int .i64 2, .int .i64 0, .string a, .int .i64 0, .string ⟨#[]⟩, .bool true, .int .i64 0, .int .i64 0, .int .i64 2, .int .i64 0, .string a, .int .i64 0, .string ⟨#[]⟩, .bool false, .int .i64 0, .int .i64 1, .int .i64 4, .int .i64 0, .string ⟨#[]⟩, .int .i64 0, .string ⟨#[]⟩, .bool true, .int .i64 0, .int .i64 1, .int .i64 4, .int .i64 0, .string ⟨#[]⟩, .int .i64 0, .string ⟨#[]⟩, .bool false, .int .i64 0, .int .i64 2, .int .i64 2, .int .i64 0, .string b, .int .i64 0, .string ⟨#[]⟩] 55)
  refine Plan.make (by rfl) (.slice (some ⟨w9.heap.size, 0, none⟩) 5 5) (w9.alloc (.cells #[.bool false, .int .i64 0, .int .i64 0, .int .i64 2, .int .i64 0, .string a, .int .i64 0, .string ⟨#[]⟩, .bool true, .int .i64 0, .int .i64 0, .int .i64 2, .int .i64 0, .string a, .int .i64 0, .string ⟨#[]⟩, .bool false, .int .i64 0, .int .i64 1, .int .i64 4, .int .i64 0, .string ⟨#[]⟩, .int .i64 0, .string ⟨#[]⟩, .bool true, .int .i64 0, .int .i64 1, .int .i64 4, .int .i64 0, .string ⟨#[]⟩, .int .i64 0, .string ⟨#[]⟩, .bool false, .int .i64 0, .int .i64 2, .int .i64 2, .int .i64 0, .string b, .int .i64 0, .string ⟨#[]⟩] 55)) ?_ ⟨K9.get 3 rfl, K9.get 2 rfl, K9.get 1 rfl⟩ ?_
  · go_simp
  simp only [Act.put, List.setIfInBounds_toArray, List.set_cons_zero, List.set_cons_succ]
  clear K
  have K := K9.sub (T' := [.box w9.heap.size (.cells #[.bool false, .int .i64 0, .int .i64 0, .int .i64 2, .int .i64 0, .string a, .int .i64 0, .string ⟨#[]⟩, .bool true, .int .i64 0, .int .i64 0, .int .i64 2, .int .i64 0, .string a, .int .i64 0, .string ⟨#[]⟩, .bool false, .int .i64 0, .int .i64 1, .int .i64 4, .int .i64 0, .string ⟨#[]⟩, .int .i64 0, .string ⟨#[]⟩, .bool true, .int .i64 0, .int .i64 1, .int .i64 4, .int .i64 0, .string ⟨#[]⟩, .int .i64 0, .string ⟨#[]⟩, .bool false, .int .i64 0, .int .i64 2, .int .i64 2, .int .i64 0, .string b, .int .i64 0, .string ⟨#[]⟩] 55)]) [0] rfl (by simp) (by simp)
  clear K9
  generalize w9.heap.size = gl at *
  generalize w9.alloc (.cells #[.bool false, .int .i64 0, .int .i64 0, .int .i64 2, .int .i64 0, .string a, .int .i64 0, .string ⟨#[]⟩, .bool true, .int .i64 0, .int .i64 0, .int .i64 2, .int .i64 0, .string a, .int .i64 0, .string ⟨#[]⟩, .bool false, .int .i64 0, .int .i64 1, .int .i64 4, .int .i64 0, .string ⟨#[]⟩, .int .i64 0, .string ⟨#[]⟩, .bool true, .int .i64 0, .int .i64 1, .int .i64 4, .int .i64 0, .string ⟨#[]⟩, .int .i64 0, .string ⟨#[]⟩, .bool false, .int .i64 0, .int .i64 2, .int .i64 2, .int .i64 0, .string b, .int .i64 0, .string ⟨#[]⟩] 55) = w10 at *
  refine Plan.take ?_ (by rfl) ?_ ?_; rotate_left; (· rintro w9 ⟨u0, u1, u2⟩; go_simp; all_goals (with_reducible rfl)); simp only [Act.put, List.setIfInBounds_toArray, List.set_cons_zero, List.set_cons_succ]
  refine Plan.ends ?_
  have lk := lit_list (R := VR) (L := dwH a b) (F := fun _ => True) (K.get 0 rfl) trivial (by show (5 : Nat) ≤ maxLen; unfold maxLen; decide)
  change VList _ _ _ 5 5 _ at lk
  go_upto_region 8 with (first
    | (go_at_call 61; (have K9 := K.al (.cells #[.string z] 9); have lz := lit_list (R := SR) (L := [z]) (F := fun _ => True) (K9.get 0 rfl) trivial (by show (1 : Nat) ≤ maxLen; unfold maxLen; decide); change SList _ _ _ 1 1 _ at lz; (with_reducible refine (HA.out _ _ _ _ _ _ _ lz (lk.same ((Below.refl _ _).alloc (Nat.le_refl _) _))).mono ?_); rintro r9 w11 ⟨ea, en, ec, rfl, le, h9⟩; replace K := K9.on h9; replace lk := (lk.same ((Below.refl _ _).alloc (Nat.le_refl _) _)).same h9; clear lz h9 K9)))
  obtain rfl : 2 = en := le.length
  obtain ⟨ex, u0, rfl, h0, ce0⟩ := str_at le 0 (by decide)
  obtain rfl : a = u0 := Option.some.inj h0
  obtain ⟨ex2, u1, h1, h2, ce1⟩ := str_at le 1 (by decide)
  obtain rfl := Option.some.inj h1
  obtain rfl : b = u1 := Option.some.inj h2
  rw [show ex.add 0 = ex from by simp [Addr.add]] at ce0
  rw [lit_off _ 1 (by decide)] at ce1
  have hec := le.cap
  unfold maxLen at hec
  clear h0 h1 h2 le HA
  go_wp2_with (first
    | (go_at_call 62; (have K9 := (K.al (.cells #[.string z] 9)).al (.cells #[.string a] 9); simp only [World.size_alloc] at K9; have lz := lit_list (R := SR) (L := [z]) (F := fun _ => True) (K9.get 1 rfl) trivial (by show (1 : Nat) ≤ maxLen; unfold maxLen; decide); change SList _ _ _ 1 1 _ at lz; have lx := lit_list (R := SR) (L := [a]) (F := fun _ => True) (K9.get 0 rfl) trivial (by show (1 : Nat) ≤ maxLen; unfold maxLen; decide); change SList _ _ _ 1 1 _ at lx; (with_reducible refine (HC.out _ _ _ _ _ _ _ _ _ _ _ lz (lk.same (((Below.refl _ _).alloc (Nat.le_refl _) _).alloc (by simp) _)) lx).mono ?_); rw [HY.out]; rintro r9 w12 ⟨rfl, h9⟩; replace K := K9.on h9; replace lk := (lk.same (((Below.refl _ _).alloc (Nat.le_refl _) _).alloc (by simp) _)).same h9; clear lz lx h9 K9))
    | (go_at_call 62; (have K9 := (K.al (.cells #[.string z] 9)).al (.cells #[.string z] 9); simp only [World.size_alloc] at K9; have lz := lit_list (R := SR) (L := [z]) (F := fun _ => True) (K9.get 1 rfl) trivial (by show (1 : Nat) ≤ maxLen; unfold maxLen; decide); change SList _ _ _ 1 1 _ at lz; have lx := lit_list (R := SR) (L := [z]) (F := fun _ => True) (K9.get 0 rfl) trivial (by show (1 : Nat) ≤ maxLen; unfold maxLen; decide); change SList _ _ _ 1 1 _ at lx; (with_reducible refine (HC.out _ _ _ _ _ _ _ _ _ _ _ lz (lk.same (((Below.refl _ _).alloc (Nat.le_refl _) _).alloc (by simp) _)) lx).mono ?_); rw [HN.out]; rintro r9 w13 ⟨rfl, h9⟩; replace K := K9.on h9; clear lz lx h9 K9)))
  go_ret
  exact ⟨rfl, K.hb⟩
end Go.Proofs.YtnmhnjjehglcfaaGreat.Ents

/- The walks of the program's Check and Zero of commands. -/
namespace Go.Proofs.YtnmhnjjehglcfaaGreat.Ents
open Go.RowKit Plan LayMath CmdMath
theorem zero_any (w : World) : Calls Tryz.prog 133 #[] w fun r w' => r = .returned (.string zeroC) ∧ Below w.heap.size w w' := by
  have hr : ∀ W : World, Calls Tryz.prog 153 #[.string ⟨#[0]⟩, .int .i64 16] W fun e W' => e = .returned (.string zeroC) ∧ Below W.heap.size W W' := fun W => Tryz.strings_Repeat ⟨#[0]⟩ 16 W (by omega) (by show 1 * 16 ≤ _; omega)
  have HR := Lib.hid hr
  go_enter Tryz.func133, Tryz.ntmps133
  go_wp2_with (first
    | (go_at_call 153; ((with_reducible refine (HR.out _).mono ?_); rintro e w1 ⟨rfl, hb1⟩)))
  go_ret
  exact ⟨rfl, hb1⟩
end Go.Proofs.YtnmhnjjehglcfaaGreat.Ents

/- The walks of the program's small functions on operations. -/
namespace Go.Proofs.YtnmhnjjehglcfaaGreat.Ents
open Go.RowKit Plan HisMath LinMath DurMath ModMath CmdMath Rws Env LayMath
set_option maxHeartbeats 8000000 in
set_option maxRecDepth 20000 in
theorem durChanges_any (k b : Int) (s : ByteArray) (w : World) : Calls Tryz.prog 118 #[cmdV k b s] w fun r w' => r = .returned (.bool (decide (k = 2) || decide (k = 3))) ∧ Below w.heap.size w w' := by
  have K := (Env.start w).al (cmdRow k b s)
  have hc : k = 2 ∨ k = 3 ∨ (k ≠ 2 ∧ k ≠ 3) := by omega
  rcases hc with rfl | rfl | ⟨h2, h3⟩
  · skip
    go_enter Tryz.func118, Tryz.ntmps118
    obtain ⟨c0, c1, c2⟩ := cmd_cells (K.get 0 rfl)
    go_wp2_with fail
    go_ret
    exact ⟨rfl, K.hb⟩
  · skip
    go_enter Tryz.func118, Tryz.ntmps118
    obtain ⟨c0, c1, c2⟩ := cmd_cells (K.get 0 rfl)
    go_wp2_with fail
    go_ret
    exact ⟨rfl, K.hb⟩
  · have e2 : (k == 2) = false := by simpa using h2
    have e3 : (k == 3) = false := by simpa using h3
    have e4 : (decide (k = 2) || decide (k = 3)) = false := by simp [h2, h3]
    rw [e4]
    clear e4
    go_enter Tryz.func118, Tryz.ntmps118
    obtain ⟨c0, c1, c2⟩ := cmd_cells (K.get 0 rfl)
    go_wp2_with fail
    go_ret
    exact ⟨rfl, K.hb⟩
set_option maxHeartbeats 8000000 in
set_option maxRecDepth 20000 in
theorem durValue_any (k b : Int) (s : ByteArray) (w : World) : Calls Tryz.prog 123 #[cmdV k b s] w fun r w' => r = .returned (.string (valK k s)) ∧ Below w.heap.size w w' := by
  have K := (Env.start w).al (cmdRow k b s)
  have HZ := Lib.hid (fun W => zero_any W)
  by_cases h3 : k = 3
  · have hv : valK k s = zeroC := if_pos h3
    rw [hv]
    subst h3
    clear hv
    go_enter Tryz.func123, Tryz.ntmps123
    obtain ⟨c0, c1, c2⟩ := cmd_cells (K.get 0 rfl)
    go_wp2_with (first
      | (go_at_call 133; ((with_reducible refine (HZ.out _).mono ?_); rintro r9 w2 ⟨rfl, h9⟩; replace K := K.on h9; clear h9)))
    go_ret
    exact ⟨rfl, K.hb⟩
  · have hv : valK k s = s := if_neg h3
    rw [hv]
    have e3 : (k == 3) = false := by simpa using h3
    clear hv
    go_enter Tryz.func123, Tryz.ntmps123
    obtain ⟨c0, c1, c2⟩ := cmd_cells (K.get 0 rfl)
    go_wp2_with fail
    go_ret
    exact ⟨rfl, K.hb⟩
set_option maxHeartbeats 8000000 in
set_option maxRecDepth 20000 in
theorem durDone_any (x : Ev) (w : World) : Calls Tryz.prog 119 #[evV x] w fun r w' => r = .returned (.bool (dnP x)) ∧ Below w.heap.size w w' := by
  obtain ⟨xr, xq, xs, xk, xb, xd, xe, xx⟩ := x
  have K := (Env.start w).al (.cells #[.bool xr, .int .i64 xq, .int .i64 xs, .int .i64 xk, .int .i64 xb, .string xd, .int .i64 xe, .string xx] 55)
  unfold dnP
  simp only
  go_enter Tryz.func119, Tryz.ntmps119
  obtain ⟨c0, c1, c2, c3, c4, c5, c6, c7⟩ := ev_cells (K.get 0 rfl)
  cases xr with
  | false =>
    go_wp2_with fail
    go_ret
    exact ⟨ret_b (by simp), K.hb⟩
  | true =>
    by_cases hz : xe = 0
    · subst hz
      go_wp2_with fail
      go_ret
      exact ⟨ret_b (by simp), K.hb⟩
    · have hzd : (xe == 0) = false := by simpa using hz
      go_wp2_with fail
      go_ret
      exact ⟨ret_b (by simp [hz]), K.hb⟩
set_option maxHeartbeats 8000000 in
set_option maxRecDepth 20000 in
theorem durHolds_any (x : Ev) (w : World) : Calls Tryz.prog 121 #[evV x] w fun r w' => r = .returned (.bool (hoP x)) ∧ Below w.heap.size w w' := by
  have HD := Lib.hid (fun W => durDone_any x W)
  unfold hoP
  obtain ⟨xr, xq, xs, xk, xb, xd, xe, xx⟩ := x
  have K := (Env.start w).al (.cells #[.bool xr, .int .i64 xq, .int .i64 xs, .int .i64 xk, .int .i64 xb, .string xd, .int .i64 xe, .string xx] 55)
  generalize dnP ⟨xr, xq, xs, xk, xb, xd, xe, xx⟩ = p at *
  simp only
  go_enter Tryz.func121, Tryz.ntmps121
  go_upto_region 1 with fail
  generalize w.alloc (.cells #[.bool xr, .int .i64 xq, .int .i64 xs, .int .i64 xk, .int .i64 xb, .string xd, .int .i64 xe, .string xx] 55) = w1 at *
  obtain ⟨c0, c1, c2, c3, c4, c5, c6, c7⟩ := ev_cells (K.get 0 rfl)
  cases p with
  | true =>
    go_wp2_with (first
      | ((with_reducible refine Plan.load_lit 55 (.tmp 1) w.heap.size ?_ (K.get 0 rfl) Tryz.underlying55 ?_ ?_ ?_); (· rfl); (· rfl); (· exact ev_info); simp only [Act.put, List.setIfInBounds_toArray, List.set_cons_zero, List.set_cons_succ])
      | (go_at_call 119; ((with_reducible refine (HD.out _).mono ?_); rintro r9 w2 ⟨rfl, h9⟩; replace K := K.on h9; clear h9; clear c0 c1 c2 c3 c4 c5 c6 c7; obtain ⟨c0, c1, c2, c3, c4, c5, c6, c7⟩ := ev_cells (K.get 0 rfl))))
    go_ret
    exact ⟨ret_b (by simp), K.hb⟩
  | false =>
    go_wp2_with (first
      | ((with_reducible refine Plan.load_lit 55 (.tmp 1) w.heap.size ?_ (K.get 0 rfl) Tryz.underlying55 ?_ ?_ ?_); (· rfl); (· rfl); (· exact ev_info); simp only [Act.put, List.setIfInBounds_toArray, List.set_cons_zero, List.set_cons_succ])
      | (go_at_call 119; ((with_reducible refine (HD.out _).mono ?_); rintro r9 w2 ⟨rfl, h9⟩; replace K := K.on h9; clear h9; clear c0 c1 c2 c3 c4 c5 c6 c7; obtain ⟨c0, c1, c2, c3, c4, c5, c6, c7⟩ := ev_cells (K.get 0 rfl))))
    go_ret
    exact ⟨ret_b (by simp), K.hb⟩
set_option maxHeartbeats 8000000 in
set_option maxRecDepth 20000 in
theorem durAlw1_any (x : Ev) (w : World) : Calls Tryz.prog 117 #[evV x] w fun r w' => r = .returned (.bool (cvP x)) ∧ Below w.heap.size w w' := by
  have HD := Lib.hid (fun W => durDone_any x W)
  have HC := Lib.hid (fun W => durChanges_any x.kind x.block x.data W)
  unfold cvP chP
  obtain ⟨xr, xq, xs, xk, xb, xd, xe, xx⟩ := x
  have K := (Env.start w).al (.cells #[.bool xr, .int .i64 xq, .int .i64 xs, .int .i64 xk, .int .i64 xb, .string xd, .int .i64 xe, .string xx] 55)
  generalize dnP ⟨xr, xq, xs, xk, xb, xd, xe, xx⟩ = p at *
  simp only at HC ⊢
  generalize (decide (xk = 2) || decide (xk = 3)) = q at *
  go_enter Tryz.func117, Tryz.ntmps117
  go_upto_region 1 with fail
  generalize w.alloc (.cells #[.bool xr, .int .i64 xq, .int .i64 xs, .int .i64 xk, .int .i64 xb, .string xd, .int .i64 xe, .string xx] 55) = w1 at *
  obtain ⟨c0, c1, c2, c3, c4, c5, c6, c7⟩ := ev_cells (K.get 0 rfl)
  cases q with
  | true =>
    go_wp2_with (first
      | ((with_reducible refine Plan.load_lit 55 (.tmp 1) w.heap.size ?_ (K.get 0 rfl) Tryz.underlying55 ?_ ?_ ?_); (· rfl); (· rfl); (· exact ev_info); simp only [Act.put, List.setIfInBounds_toArray, List.set_cons_zero, List.set_cons_succ])
      | (go_at_call 118; ((with_reducible refine (HC.out _).mono ?_); rintro r9 w2 ⟨rfl, h9⟩; replace K := K.on h9; clear h9; clear c0 c1 c2 c3 c4 c5 c6 c7; obtain ⟨c0, c1, c2, c3, c4, c5, c6, c7⟩ := ev_cells (K.get 0 rfl)))
      | (go_at_call 119; ((with_reducible refine (HD.out _).mono ?_); rintro r9 w3 ⟨rfl, h9⟩; replace K := K.on h9; clear h9; clear c0 c1 c2 c3 c4 c5 c6 c7; obtain ⟨c0, c1, c2, c3, c4, c5, c6, c7⟩ := ev_cells (K.get 0 rfl))))
    go_ret
    exact ⟨ret_b (by simp), K.hb⟩
  | false =>
    go_wp2_with (first
      | ((with_reducible refine Plan.load_lit 55 (.tmp 1) w.heap.size ?_ (K.get 0 rfl) Tryz.underlying55 ?_ ?_ ?_); (· rfl); (· rfl); (· exact ev_info); simp only [Act.put, List.setIfInBounds_toArray, List.set_cons_zero, List.set_cons_succ])
      | (go_at_call 118; ((with_reducible refine (HC.out _).mono ?_); rintro r9 w2 ⟨rfl, h9⟩; replace K := K.on h9; clear h9; clear c0 c1 c2 c3 c4 c5 c6 c7; obtain ⟨c0, c1, c2, c3, c4, c5, c6, c7⟩ := ev_cells (K.get 0 rfl)))
      | (go_at_call 119; ((with_reducible refine (HD.out _).mono ?_); rintro r9 w3 ⟨rfl, h9⟩; replace K := K.on h9; clear h9; clear c0 c1 c2 c3 c4 c5 c6 c7; obtain ⟨c0, c1, c2, c3, c4, c5, c6, c7⟩ := ev_cells (K.get 0 rfl))))
    go_ret
    exact ⟨ret_b (by simp), K.hb⟩
set_option maxHeartbeats 8000000 in
set_option maxRecDepth 20000 in
theorem durFl1_any (x : Ev) (w : World) : Calls Tryz.prog 124 #[evV x] w fun r w' => r = .returned (.bool (flP x)) ∧ Below w.heap.size w w' := by
  have HD := Lib.hid (fun W => durDone_any x W)
  unfold flP
  obtain ⟨xr, xq, xs, xk, xb, xd, xe, xx⟩ := x
  have K := (Env.start w).al (.cells #[.bool xr, .int .i64 xq, .int .i64 xs, .int .i64 xk, .int .i64 xb, .string xd, .int .i64 xe, .string xx] 55)
  generalize dnP ⟨xr, xq, xs, xk, xb, xd, xe, xx⟩ = p at *
  simp only
  go_enter Tryz.func124, Tryz.ntmps124
  go_upto_region 1 with fail
  generalize w.alloc (.cells #[.bool xr, .int .i64 xq, .int .i64 xs, .int .i64 xk, .int .i64 xb, .string xd, .int .i64 xe, .string xx] 55) = w1 at *
  obtain ⟨c0, c1, c2, c3, c4, c5, c6, c7⟩ := ev_cells (K.get 0 rfl)
  by_cases h4 : xk = 4
  · subst h4
    go_wp2_with (first
      | ((with_reducible refine Plan.load_lit 55 (.tmp 1) w.heap.size ?_ (K.get 0 rfl) Tryz.underlying55 ?_ ?_ ?_); (· rfl); (· rfl); (· exact ev_info); simp only [Act.put, List.setIfInBounds_toArray, List.set_cons_zero, List.set_cons_succ])
      | (go_at_call 119; ((with_reducible refine (HD.out _).mono ?_); rintro r9 w2 ⟨rfl, h9⟩; replace K := K.on h9; clear h9; clear c0 c1 c2 c3 c4 c5 c6 c7; obtain ⟨c0, c1, c2, c3, c4, c5, c6, c7⟩ := ev_cells (K.get 0 rfl))))
    go_ret
    exact ⟨ret_b (by simp), K.hb⟩
  · have e4 : (xk == 4) = false := by simpa using h4
    go_wp2_with (first
      | ((with_reducible refine Plan.load_lit 55 (.tmp 1) w.heap.size ?_ (K.get 0 rfl) Tryz.underlying55 ?_ ?_ ?_); (· rfl); (· rfl); (· exact ev_info); simp only [Act.put, List.setIfInBounds_toArray, List.set_cons_zero, List.set_cons_succ])
      | (go_at_call 119; ((with_reducible refine (HD.out _).mono ?_); rintro r9 w2 ⟨rfl, h9⟩; replace K := K.on h9; clear h9; clear c0 c1 c2 c3 c4 c5 c6 c7; obtain ⟨c0, c1, c2, c3, c4, c5, c6, c7⟩ := ev_cells (K.get 0 rfl))))
    go_ret
    exact ⟨ret_b (by simp [h4]), K.hb⟩
set_option maxHeartbeats 8000000 in
set_option maxRecDepth 20000 in
theorem durFl2_any (x f : Ev) (g : Nat) (w : World) (hf : w.heap[g]? = some (.cells #[.bool f.ret, .int .i64 f.queue, .int .i64 f.serial, .int .i64 f.kind, .int .i64 f.block, .string f.data, .int .i64 f.err, .string f.res] 55 (0, 0))) :
    Calls Tryz.prog 125 #[evV x, .pointer (some ⟨g, 0, none⟩)] w fun r w' => r = .returned (.bool (serP f.serial x)) ∧ Below w.heap.size w w' := by
  unfold serP
  obtain ⟨xr, xq, xs, xk, xb, xd, xe, xx⟩ := x
  have K := (Env.start w).al (.cells #[.bool xr, .int .i64 xq, .int .i64 xs, .int .i64 xk, .int .i64 xb, .string xd, .int .i64 xe, .string xx] 55)
  obtain ⟨f0, f1, f2, f3, f4, f5, f6, f7⟩ := ev_cells (e_al hf (.cells #[.bool xr, .int .i64 xq, .int .i64 xs, .int .i64 xk, .int .i64 xb, .string xd, .int .i64 xe, .string xx] 55))
  clear hf f0 f1 f3 f4 f5 f6 f7
  obtain ⟨q, d2⟩ : ∃ q, (xs == f.serial) = q := ⟨_, rfl⟩
  simp only
  rw [show decide (xs = f.serial) = q from d2]
  go_enter Tryz.func125, Tryz.ntmps125
  obtain ⟨c0, c1, c2, c3, c4, c5, c6, c7⟩ := ev_cells (K.get 0 rfl)
  go_wp2_with fail
  go_ret
  exact ⟨rfl, K.hb⟩
set_option maxHeartbeats 8000000 in
set_option maxRecDepth 20000 in
theorem durCov_any (x : Ev) (F G : Nat → Prop) (A C : List Ev) (a b : Option Addr) (n c m d : Nat) (w : World) (hl : VList w F a n c A) (hk : VList w G b m d C) :
    Calls Tryz.prog 122 #[.slice a n c, evV x, .slice b m d] w fun r w' => r = .returned (.bool (coverB A C x)) ∧ Below w.heap.size w w' := by
  have hlen := hk.length
  have hcp := hk.cap
  unfold maxLen at hcp
  obtain ⟨xr, xq, xs, xk, xb, xd, xe, xx⟩ := x
  have K := (Env.start w).al (.cells #[.bool xr, .int .i64 xq, .int .i64 xs, .int .i64 xk, .int .i64 xb, .string xd, .int .i64 xe, .string xx] 55)
  by_cases hm : 0 < m
  · have HYE := Lib.hid (fun W (h : Below w.heap.size w W) => ev_at (hk.same h) (m - 1) (by omega))
    obtain ⟨y, hy⟩ : ∃ y, C[m - 1]? = some y := ⟨_, List.getElem?_eq_getElem (by omega)⟩
    have hcv : coverB A C ⟨xr, xq, xs, xk, xb, xd, xe, xx⟩ = beforeB A xs y.serial := by
      unfold coverB
      rw [List.getLast?_eq_getElem?, hlen, hy]
    rw [hcv]
    have HB := Lib.hid (fun W (h : Below w.heap.size w W) => hisBefore_any _ A a n c xs y.serial W (hl.same h))
    generalize beforeB A xs y.serial = p at *
    obtain ⟨z, e, rfl, he, _⟩ := HYE.out w (Below.refl _ _)
    obtain rfl : y = e := Option.some.inj (hy.symm.trans he)
    have HYS := Lib.hid (fun W (h : Below w.heap.size w W) => (show W.cell? ⟨(z.add ((m - 1) * 8)).block, (z.add ((m - 1) * 8)).off + 2, none⟩ = some (.int .i64 y.serial) from by
      obtain ⟨x', e', hx, he', _, _, q, _⟩ := HYE.out W h
      obtain rfl := Option.some.inj hx
      obtain rfl := Option.some.inj (he'.symm.trans hy)
      exact q))
    clear hcv he hl hk HYE
    generalize y.serial = ys at *
    clear hy
    have hmI : (0 : Int) < (m : Int) := by omega
    have hmd : decide ((0 : Int) < (m : Int)) = true := decide_eq_true hmI
    have hmd2 : decide (0 < m) = true := decide_eq_true hm
    have hm1 : IntKind.i64.wrap ((m : Int) - 1) = ((m - 1 : Nat) : Int) := by rw [IntWalk.i64_in _ (by omega)]; omega
    have hmm : ((m - 1 : Nat) : Int) < (m : Int) := by omega
    have hm0 : (0 : Int) ≤ ((m - 1 : Nat) : Int) := by omega
    go_enter Tryz.func122, Tryz.ntmps122
    go_upto_region 1 with fail
    generalize w.alloc (.cells #[.bool xr, .int .i64 xq, .int .i64 xs, .int .i64 xk, .int .i64 xb, .string xd, .int .i64 xe, .string xx] 55) = w1 at *
    refine Plan.start (fun W => W.cell? ⟨w.heap.size, 2, none⟩ = some (.int .i64 xs) ∧ W.cell? ⟨(z.add ((m - 1) * 8)).block, (z.add ((m - 1) * 8)).off + 2, none⟩ = some (.int .i64 ys)) [(0, true), (1, true), (2, true), (3, true), (4, true), (5, true), (6, true), (7, true), (8, true), (9, true), (10, true), (11, true), (12, true), (13, true), (14, false), (15, true), (16, true)] (by kernel_rfl) (by kernel_rfl) (by kernel_rfl) (by kernel_rfl) ⟨(ev_cells (K.drew.get 0 rfl)).2.2.1, HYS.out _ K.drew.hb⟩ ?_
    simp only [List.map_cons, List.map_nil, List.getElem?_toArray, List.getElem?_cons_zero, List.getElem?_cons_succ]
    replace K := K.drew
    repeat (first | (refine Plan.take ?_ (by rfl) ?_ ?_; rotate_left; (· rintro w9 ⟨u0, u1⟩; go_simp; (try rw [if_neg (by omega)]); all_goals (with_reducible rfl)); simp only [Act.put, List.setIfInBounds_toArray, List.set_cons_zero, List.set_cons_succ]) | (refine Plan.pass (by rfl) ?_; simp only [Act.put, List.setIfInBounds_toArray, List.set_cons_zero, List.set_cons_succ]))
    refine Plan.call (by rfl) 147 _ ?_ (HB.out _ K.hb) ?_
    · go_simp
    rintro r9 w5 ⟨rfl, h9⟩
    replace K := K.on h9
    refine ⟨_, rfl, ⟨(ev_cells (K.get 0 rfl)).2.2.1, HYS.out _ K.hb⟩, ?_⟩
    simp only [Act.put, List.setIfInBounds_toArray, List.set_cons_zero, List.set_cons_succ]
    repeat (first | (refine Plan.take ?_ (by rfl) ?_ ?_; rotate_left; (· rintro w9 ⟨u0, u1⟩; go_simp; (try rw [if_neg (by omega)]); all_goals (with_reducible rfl)); simp only [Act.put, List.setIfInBounds_toArray, List.set_cons_zero, List.set_cons_succ]) | (refine Plan.pass (by rfl) ?_; simp only [Act.put, List.setIfInBounds_toArray, List.set_cons_zero, List.set_cons_succ]))
    refine Plan.ends ?_
    go_wp2_with fail
    go_ret
    exact ⟨rfl, K.hb⟩
  · have hcv : coverB A C ⟨xr, xq, xs, xk, xb, xd, xe, xx⟩ = false := by
      unfold coverB
      rw [List.eq_nil_of_length_eq_zero (by omega : C.length = 0)]
      rfl
    rw [hcv]
    have hmI : ¬ (0 : Int) < (m : Int) := by omega
    have hmd : decide ((0 : Int) < (m : Int)) = false := decide_eq_false hmI
    have hmd2 : decide (0 < m) = false := decide_eq_false hm
    clear hcv hl hk
    go_enter Tryz.func122, Tryz.ntmps122
    go_upto_region 1 with fail
    generalize w.alloc (.cells #[.bool xr, .int .i64 xq, .int .i64 xs, .int .i64 xk, .int .i64 xb, .string xd, .int .i64 xe, .string xx] 55) = w1 at *
    refine Plan.start (fun W => True) [(0, true), (1, true), (2, true), (3, true), (4, true), (5, true), (6, true), (7, true), (8, true), (9, true), (10, true), (11, true), (12, true), (13, true), (14, false), (15, true), (16, true)] (by kernel_rfl) (by kernel_rfl) (by kernel_rfl) (by kernel_rfl) trivial ?_
    simp only [List.map_cons, List.map_nil, List.getElem?_toArray, List.getElem?_cons_zero, List.getElem?_cons_succ]
    replace K := K.drew
    repeat (first | (refine Plan.take ?_ (by rfl) ?_ ?_; rotate_left; (· rintro w9 u0; go_simp; (try rw [if_neg (by omega)]); all_goals (with_reducible rfl)); simp only [Act.put, List.setIfInBounds_toArray, List.set_cons_zero, List.set_cons_succ]) | (refine Plan.pass (by rfl) ?_; simp only [Act.put, List.setIfInBounds_toArray, List.set_cons_zero, List.set_cons_succ]))
    refine Plan.pass' (by rfl) trivial ?_
    simp only [Act.put, List.setIfInBounds_toArray, List.set_cons_zero, List.set_cons_succ]
    repeat (first | (refine Plan.take ?_ (by rfl) ?_ ?_; rotate_left; (· rintro w9 u0; go_simp; (try rw [if_neg (by omega)]); all_goals (with_reducible rfl)); simp only [Act.put, List.setIfInBounds_toArray, List.set_cons_zero, List.set_cons_succ]) | (refine Plan.pass (by rfl) ?_; simp only [Act.put, List.setIfInBounds_toArray, List.set_cons_zero, List.set_cons_succ]))
    refine Plan.ends ?_
    go_wp2_with fail
    go_ret
    exact ⟨rfl, K.hb⟩
set_option maxHeartbeats 8000000 in
set_option maxRecDepth 20000 in
theorem durAlw2_any (x : Ev) (F G : Nat → Prop) (A C : List Ev) (a b : Option Addr) (n c m d g1 g2 : Nat) (w : World) (hl : VList w F a n c A) (hk : VList w G b m d C) (h1 : w.heap[g1]? = some (.cells #[.slice a n c] 23 (0, 0))) (h2 : w.heap[g2]? = some (.cells #[.slice b m d] 23 (0, 0))) :
    Calls Tryz.prog 120 #[evV x, .pointer (some ⟨g1, 0, none⟩), .pointer (some ⟨g2, 0, none⟩)] w fun r w' => r = .returned (.bool (lfP A C x)) ∧ Below w.heap.size w w' := by
  have HC := Lib.hid (fun W => durChanges_any x.kind x.block x.data W)
  have HH := Lib.hid (fun W => durHolds_any x W)
  have HV := Lib.hid (fun W (h : Below w.heap.size w W) => durCov_any x _ _ A C a b n c m d W (hl.same h) (hk.same h))
  have HX1 := Lib.hid (fun W (h : Below w.heap.size w W) => cell_of_row W g1 0 _ _ _ (e_on h h1 (e_lt h1)))
  have HX2 := Lib.hid (fun W (h : Below w.heap.size w W) => cell_of_row W g2 0 _ _ _ (e_on h h2 (e_lt h2)))
  unfold lfP
  obtain ⟨xr, xq, xs, xk, xb, xd, xe, xx⟩ := x
  have K := (Env.start w).al (.cells #[.bool xr, .int .i64 xq, .int .i64 xs, .int .i64 xk, .int .i64 xb, .string xd, .int .i64 xe, .string xx] 55)
  generalize hoP ⟨xr, xq, xs, xk, xb, xd, xe, xx⟩ = p at *
  generalize coverB A C ⟨xr, xq, xs, xk, xb, xd, xe, xx⟩ = v at *
  unfold chP
  simp only at HC ⊢
  generalize (decide (xk = 2) || decide (xk = 3)) = q at *
  clear hl hk h1 h2
  go_enter Tryz.func120, Tryz.ntmps120
  go_upto_region 1 with fail
  generalize w.alloc (.cells #[.bool xr, .int .i64 xq, .int .i64 xs, .int .i64 xk, .int .i64 xb, .string xd, .int .i64 xe, .string xx] 55) = w1 at *
  obtain ⟨c0, c1, c2, c3, c4, c5, c6, c7⟩ := ev_cells (K.get 0 rfl)
  have x1 := HX1.out _ K.hb
  have x2 := HX2.out _ K.hb
  cases q with
  | false =>
    go_wp2_with (first
      | ((with_reducible refine Plan.load_lit 55 (.tmp 9) w.heap.size ?_ (K.get 0 rfl) Tryz.underlying55 ?_ ?_ ?_); (· rfl); (· rfl); (· exact ev_info); simp only [Act.put, List.setIfInBounds_toArray, List.set_cons_zero, List.set_cons_succ])
      | ((with_reducible refine Plan.load_lit 55 (.tmp 14) w.heap.size ?_ (K.get 0 rfl) Tryz.underlying55 ?_ ?_ ?_); (· rfl); (· rfl); (· exact ev_info); simp only [Act.put, List.setIfInBounds_toArray, List.set_cons_zero, List.set_cons_succ])
      | (go_at_call 118; ((with_reducible refine (HC.out _).mono ?_); rintro r9 w2 ⟨rfl, h9⟩; replace K := K.on h9; clear h9; clear c0 c1 c2 c3 c4 c5 c6 c7; obtain ⟨c0, c1, c2, c3, c4, c5, c6, c7⟩ := ev_cells (K.get 0 rfl); clear x1 x2; have x1 := HX1.out _ K.hb; have x2 := HX2.out _ K.hb))
      | (go_at_call 121; ((with_reducible refine (HH.out _).mono ?_); rintro r9 w3 ⟨rfl, h9⟩; replace K := K.on h9; clear h9; clear c0 c1 c2 c3 c4 c5 c6 c7; obtain ⟨c0, c1, c2, c3, c4, c5, c6, c7⟩ := ev_cells (K.get 0 rfl); clear x1 x2; have x1 := HX1.out _ K.hb; have x2 := HX2.out _ K.hb))
      | (go_at_call 122; ((with_reducible refine (HV.out _ K.hb).mono ?_); rintro r9 w4 ⟨rfl, h9⟩; replace K := K.on h9; clear h9; clear c0 c1 c2 c3 c4 c5 c6 c7; obtain ⟨c0, c1, c2, c3, c4, c5, c6, c7⟩ := ev_cells (K.get 0 rfl); clear x1 x2; have x1 := HX1.out _ K.hb; have x2 := HX2.out _ K.hb)))
    go_ret
    exact ⟨ret_b (by simp), K.hb⟩
  | true =>
   cases p with
   | false =>
    go_wp2_with (first
      | ((with_reducible refine Plan.load_lit 55 (.tmp 9) w.heap.size ?_ (K.get 0 rfl) Tryz.underlying55 ?_ ?_ ?_); (· rfl); (· rfl); (· exact ev_info); simp only [Act.put, List.setIfInBounds_toArray, List.set_cons_zero, List.set_cons_succ])
      | ((with_reducible refine Plan.load_lit 55 (.tmp 14) w.heap.size ?_ (K.get 0 rfl) Tryz.underlying55 ?_ ?_ ?_); (· rfl); (· rfl); (· exact ev_info); simp only [Act.put, List.setIfInBounds_toArray, List.set_cons_zero, List.set_cons_succ])
      | (go_at_call 118; ((with_reducible refine (HC.out _).mono ?_); rintro r9 w2 ⟨rfl, h9⟩; replace K := K.on h9; clear h9; clear c0 c1 c2 c3 c4 c5 c6 c7; obtain ⟨c0, c1, c2, c3, c4, c5, c6, c7⟩ := ev_cells (K.get 0 rfl); clear x1 x2; have x1 := HX1.out _ K.hb; have x2 := HX2.out _ K.hb))
      | (go_at_call 121; ((with_reducible refine (HH.out _).mono ?_); rintro r9 w3 ⟨rfl, h9⟩; replace K := K.on h9; clear h9; clear c0 c1 c2 c3 c4 c5 c6 c7; obtain ⟨c0, c1, c2, c3, c4, c5, c6, c7⟩ := ev_cells (K.get 0 rfl); clear x1 x2; have x1 := HX1.out _ K.hb; have x2 := HX2.out _ K.hb))
      | (go_at_call 122; ((with_reducible refine (HV.out _ K.hb).mono ?_); rintro r9 w4 ⟨rfl, h9⟩; replace K := K.on h9; clear h9; clear c0 c1 c2 c3 c4 c5 c6 c7; obtain ⟨c0, c1, c2, c3, c4, c5, c6, c7⟩ := ev_cells (K.get 0 rfl); clear x1 x2; have x1 := HX1.out _ K.hb; have x2 := HX2.out _ K.hb)))
    go_ret
    exact ⟨ret_b (by simp), K.hb⟩
   | true =>
    go_wp2_with (first
      | ((with_reducible refine Plan.load_lit 55 (.tmp 9) w.heap.size ?_ (K.get 0 rfl) Tryz.underlying55 ?_ ?_ ?_); (· rfl); (· rfl); (· exact ev_info); simp only [Act.put, List.setIfInBounds_toArray, List.set_cons_zero, List.set_cons_succ])
      | ((with_reducible refine Plan.load_lit 55 (.tmp 14) w.heap.size ?_ (K.get 0 rfl) Tryz.underlying55 ?_ ?_ ?_); (· rfl); (· rfl); (· exact ev_info); simp only [Act.put, List.setIfInBounds_toArray, List.set_cons_zero, List.set_cons_succ])
      | (go_at_call 118; ((with_reducible refine (HC.out _).mono ?_); rintro r9 w2 ⟨rfl, h9⟩; replace K := K.on h9; clear h9; clear c0 c1 c2 c3 c4 c5 c6 c7; obtain ⟨c0, c1, c2, c3, c4, c5, c6, c7⟩ := ev_cells (K.get 0 rfl); clear x1 x2; have x1 := HX1.out _ K.hb; have x2 := HX2.out _ K.hb))
      | (go_at_call 121; ((with_reducible refine (HH.out _).mono ?_); rintro r9 w3 ⟨rfl, h9⟩; replace K := K.on h9; clear h9; clear c0 c1 c2 c3 c4 c5 c6 c7; obtain ⟨c0, c1, c2, c3, c4, c5, c6, c7⟩ := ev_cells (K.get 0 rfl); clear x1 x2; have x1 := HX1.out _ K.hb; have x2 := HX2.out _ K.hb))
      | (go_at_call 122; ((with_reducible refine (HV.out _ K.hb).mono ?_); rintro r9 w4 ⟨rfl, h9⟩; replace K := K.on h9; clear h9; clear c0 c1 c2 c3 c4 c5 c6 c7; obtain ⟨c0, c1, c2, c3, c4, c5, c6, c7⟩ := ev_cells (K.get 0 rfl); clear x1 x2; have x1 := HX1.out _ K.hb; have x2 := HX2.out _ K.hb)))
    go_ret
    exact ⟨ret_b (by simp), K.hb⟩
end Go.Proofs.YtnmhnjjehglcfaaGreat.Ents
