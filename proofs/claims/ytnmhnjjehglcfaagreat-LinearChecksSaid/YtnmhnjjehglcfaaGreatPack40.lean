/- Texts that belong together, part 40. -/
import Derived.Test.YtnmhnjjehglcfaaGreatPack39

/- The walk of the program's pick. -/
namespace Go.Proofs.YtnmhnjjehglcfaaGreat.SrchM
open LinMath HisMath ModMath CmdMath Ents
/-- the operations of an order -/
def PickP (O : List Ev) (o : List Int) (xs : List Ev) : Prop := o = xs.map (·.serial) ∧ (∀ x ∈ xs, x ∈ O) ∧ xs.Pairwise (fun x y => x.serial ≠ y.serial) ∧ (∀ x ∈ xs, skipP x = false) ∧ ∀ y ∈ O, mustP y = true → y ∈ xs
/-- what is laid into the map by the first operations -/
def LeftD (O : List Ev) (j : Nat) (f : Int → Option Value) : Prop := ∀ s v, f s = some v ↔ ∃ x, x ∈ O.take j ∧ x.err = 0 ∧ x.serial = s ∧ v = evV x
theorem left_zero (O : List Ev) : LeftD O 0 (fun _ => none) := fun s v => by simp
theorem left_next {O : List Ev} (hone : ∀ x ∈ O, ∀ y ∈ O, x.serial = y.serial → x = y) {j : Nat} {e : Ev} (he : O[j]? = some e) {f : Int → Option Value} (h : LeftD O j f) : (e.err = 0 → LeftD O (j + 1) (putF f e.serial (evV e))) ∧ (¬ e.err = 0 → LeftD O (j + 1) f) := by
  have hem := List.mem_of_getElem? he
  constructor
  · intro h0 s v
    rw [take_snoc he]
    by_cases hs : s = e.serial
    · subst hs
      simp only [putF, if_true, Option.some.injEq]
      constructor
      · rintro rfl
        exact ⟨e, by simp, h0, rfl, rfl⟩
      · rintro ⟨x, hx, _, hxs, rfl⟩
        have hxO : x ∈ O := by
          rcases List.mem_append.1 hx with hx | hx
          · exact List.mem_of_mem_take hx
          · rw [List.mem_singleton.1 hx]; exact hem
        rw [hone x hxO e hem hxs]
    · simp only [putF, if_neg hs]
      rw [h s v]
      constructor
      · rintro ⟨x, hx, h1⟩; exact ⟨x, List.mem_append_left _ hx, h1⟩
      · rintro ⟨x, hx, h1, h2, h3⟩
        rcases List.mem_append.1 hx with hx | hx
        · exact ⟨x, hx, h1, h2, h3⟩
        · rw [List.mem_singleton.1 hx] at h2; exact absurd h2.symm hs
  · intro h0 s v
    rw [take_snoc he, h s v]
    constructor
    · rintro ⟨x, hx, h1⟩; exact ⟨x, List.mem_append_left _ hx, h1⟩
    · rintro ⟨x, hx, h1, h2⟩
      rcases List.mem_append.1 hx with hx | hx
      · exact ⟨x, hx, h1, h2⟩
      · rw [List.mem_singleton.1 hx] at h1; exact absurd h1 h0
/-- what is left behind the first serials -/
def PickD (O : List Ev) (xs : List Ev) (f : Int → Option Value) : Prop := ∀ s v, f s = some v ↔ ∃ x, x ∈ O ∧ x.err = 0 ∧ x.serial = s ∧ v = evV x ∧ ¬ s ∈ xs.map (·.serial)
theorem pick_zero {O : List Ev} {j : Nat} (hj : O.length ≤ j) {f : Int → Option Value} (h : LeftD O j f) : PickD O [] f := fun s v => by
  rw [h s v, List.take_of_length_le hj]
  simp
theorem pick_next {O xs : List Ev} {f : Int → Option Value} (h : PickD O xs f) (x : Ev) : PickD O (xs ++ [x]) (dropF f x.serial) := fun s v => by
  by_cases hs : s = x.serial
  · subst hs
    simp [dropF]
  · simp only [dropF, if_neg hs]
    rw [h s v]
    simp [hs]
structure PickS (O : List Ev) (o : List Int) (k : Nat) (xs : List Ev) (f : Int → Option Value) : Prop where
  ser : xs.map (·.serial) = o.take k
  mem : ∀ x ∈ xs, x ∈ O ∧ x.err = 0
  nd : xs.Pairwise (fun x y => x.serial ≠ y.serial)
  left : PickD O xs f
theorem picks_next {O xs : List Ev} {o : List Int} {k : Nat} {f : Int → Option Value} (h : PickS O o k xs f) {s : Int} (hs : o[k]? = some s) {v : Value} (hv : f s = some v) : ∃ x, x ∈ O ∧ v = evV x ∧ x.serial = s ∧ PickS O o (k + 1) (xs ++ [x]) (dropF f s) := by
  obtain ⟨x, h1, h2, h3, h4, h5⟩ := (h.left s v).1 hv
  subst h3
  refine ⟨x, h1, h4, rfl, ?_, ?_, ?_, pick_next h.left x⟩
  · rw [take_snoc hs, List.map_append, h.ser]; rfl
  · intro y hy
    rcases List.mem_append.1 hy with hy | hy
    · exact h.mem y hy
    · rw [List.mem_singleton.1 hy]; exact ⟨h1, h2⟩
  · rw [List.pairwise_append]
    refine ⟨h.nd, List.pairwise_singleton _ _, fun y hy z hz => ?_⟩
    rw [List.mem_singleton.1 hz]
    intro e
    exact h5 (List.mem_map.2 ⟨y, hy, e⟩)
theorem picks_no {O xs : List Ev} {o : List Int} {k : Nat} {f : Int → Option Value} (hpe : ∀ x ∈ O, x.ret = false → x.err = 0) (h : PickS O o k xs f) {s : Int} (hs : o[k]? = some s) (hv : f s = none) : ¬ ∃ ys, PickP O o ys := by
  rintro ⟨ys, h1, h2, h3, h4, _⟩
  have hk : ys[k]?.map (·.serial) = some s := by rw [← List.getElem?_map, ← h1]; exact hs
  obtain ⟨y, hy, hys⟩ := Option.map_eq_some_iff.1 hk
  have hym := List.mem_of_getElem? hy
  have he : y.err = 0 := by
    cases hr : y.ret with
    | false => exact hpe y (h2 y hym) hr
    | true =>
      have := h4 y hym
      simp [skipP, hr] at this
      exact this
  have hn : ¬ s ∈ xs.map (·.serial) := by
    rw [h.ser, h1]
    intro hm
    obtain ⟨i, hi⟩ := List.mem_iff_getElem?.1 hm
    rw [List.getElem?_take] at hi
    split at hi
    · rename_i hik
      rw [List.getElem?_map] at hi
      obtain ⟨z, hz, hzs⟩ := Option.map_eq_some_iff.1 hi
      obtain ⟨hil, hie⟩ := List.getElem?_eq_some_iff.1 hz
      obtain ⟨hkl, hke⟩ := List.getElem?_eq_some_iff.1 hy
      have := List.pairwise_iff_getElem.1 h3 i k hil hkl hik
      rw [hie, hke] at this
      exact this (hzs.trans hys.symm)
    · cases hi
  have := (h.left s (evV y)).2 ⟨y, h2 y hym, he, hys, rfl, hn⟩
  rw [hv] at this; cases this
theorem picks_yes {O xs : List Ev} {o : List Int} {k : Nat} {f : Int → Option Value} (hone : ∀ x ∈ O, ∀ y ∈ O, x.serial = y.serial → x = y) (h : PickS O o k xs f) (hk : o.length ≤ k) (hn : ∀ s x, f s = some (evV x) → x.ret = false) : PickP O o xs := by
  refine ⟨by rw [h.ser, List.take_of_length_le hk], fun x hx => (h.mem x hx).1, h.nd, fun x hx => by simp [skipP, (h.mem x hx).2], fun y hy hm => ?_⟩
  by_cases hs : y.serial ∈ xs.map (·.serial)
  · obtain ⟨x, hx, hxs⟩ := List.mem_map.1 hs
    rw [← hone x (h.mem x hx).1 y hy hxs]; exact hx
  · unfold mustP at hm
    rw [Bool.and_eq_true, decide_eq_true_eq] at hm
    have h9 := hn y.serial y ((h.left y.serial (evV y)).2 ⟨y, hy, hm.2, rfl, rfl, hs⟩)
    rw [hm.1] at h9; cases h9
theorem picks_left {O xs : List Ev} {o : List Int} {k : Nat} {f : Int → Option Value} (h : PickS O o k xs f) (hk : o.length ≤ k) {s : Int} {x : Ev} (hf : f s = some (evV x)) (hinj : ∀ a b : Ev, evV a = evV b → a = b) (hr : x.ret = true) : ¬ ∃ ys, PickP O o ys := by
  rintro ⟨ys, h1, h2, h3, h4, h5⟩
  obtain ⟨y, q1, q2, q3, q4, q5⟩ := (h.left s (evV x)).1 hf
  obtain rfl := hinj x y q4
  have := h5 x q1 (by simp [mustP, hr, q2])
  apply q5
  rw [h.ser, List.take_of_length_le hk, h1]
  exact List.mem_map.2 ⟨x, this, q3⟩
end Go.Proofs.YtnmhnjjehglcfaaGreat.SrchM
namespace Go.Proofs.YtnmhnjjehglcfaaGreat.Ents
open Go.RowKit Plan HisMath LinMath ModMath CmdMath Rws Env LayMath SrchM
theorem born_one {es : Array MapEntry} (hn : (es.toList.map (·.born)).Nodup) {a b : MapEntry} (ha : a ∈ es.toList) (hb : b ∈ es.toList) (h : a.born = b.born) : a = b := by
  obtain ⟨i, hi⟩ := List.mem_iff_getElem?.1 ha
  obtain ⟨j, hj⟩ := List.mem_iff_getElem?.1 hb
  have hil : i < (es.toList.map (·.born)).length := by rw [List.length_map]; exact (List.getElem?_eq_some_iff.1 hi).1
  have hjl : j < (es.toList.map (·.born)).length := by rw [List.length_map]; exact (List.getElem?_eq_some_iff.1 hj).1
  have e1 : (es.toList.map (·.born))[i]? = some a.born := by rw [List.getElem?_map, hi]; rfl
  have e2 : (es.toList.map (·.born))[j]? = some a.born := by rw [List.getElem?_map, hj, h]; rfl
  have := (List.getElem_inj (h₀ := hil) (h₁ := hjl) hn).1 (by rw [(List.getElem_eq_iff hil).2 e1, (List.getElem_eq_iff hjl).2 e2])
  subst this
  rw [hi] at hj
  exact Option.some.inj hj
theorem evV_inj (a b : Ev) (h : evV a = evV b) : a = b := by
  obtain ⟨⟩ := a; obtain ⟨⟩ := b
  simp at h
  obtain ⟨h1, h2, h3, h4, h5, h6, h7, h8⟩ := h
  subst h1 h2 h3 h4 h5 h6 h7 h8
  rfl
/-- what pick leaves -/
def PickPost (O : List Ev) (o : List Int) (w : World) (r : Ending) (w' : World) : Prop :=
  ∃ (a : Option Addr) (n c : Nat) (xs : List Ev) (b : Bool), r = .returned (.tuple #[.slice a n c, .bool b]) ∧ VList w' (fun x => w.heap.size ≤ x) a n c xs ∧ Below w.heap.size w w' ∧ (b = true → PickP O o xs) ∧ (b = false → ¬ ∃ xs, PickP O o xs)
theorem pick_no {O : List Ev} {o : List Int} {w w' : World} (hb : Below w.heap.size w w') (h : ¬ ∃ xs, PickP O o xs) : PickPost O o w (.returned (.tuple #[.slice none 0 0, .bool false])) w' :=
  ⟨none, 0, 0, [], false, rfl, TList.nil _ _, hb, fun h => (by cases h), fun _ => h⟩
set_option maxHeartbeats 8000000 in
set_option maxRecDepth 20000 in
theorem pick_any (F G : Nat → Prop) (L : List Ev) (o : List Int) (a b : Option Addr) (n c q d : Nat) (w : World) (hl : VList w F a n c L) (ho : TList IR w G b q d o) (hm : n ≤ 100000) (hq : q ≤ 100000)
    (hone : ∀ x ∈ opsE L n, ∀ y ∈ opsE L n, x.serial = y.serial → x = y) (hpe : ∀ x ∈ opsE L n, x.ret = false → x.err = 0) :
    Calls Tryz.prog 71 #[.slice a n c, .slice b q d] w (PickPost (opsE L n) o w) := by
  have HO := Lib.hid (fun W (h : Below w.heap.size w W) => hisOps_any _ L a n c W (hl.same h) hm)
  have hol : (opsE L n).length ≤ n := by rw [← calls_map, List.length_map]; exact calls_len L n
  have HAT2 := Lib.hid (fun W (h : Below w.heap.size w W) i (hi : i < q) => ir_at (ho.same h) i hi)
  have hlo := Lib.hid ho.length
  unfold VPost at HO
  generalize opsE L n = O at *
  have HONE := Lib.hid hone
  have HPE := Lib.hid hpe
  have hmm := (show (Instr.makeMap 141 none).run Tryz.prog w = .ok (.map (some w.heap.size)) (w.alloc (.map #[] 0)) from rfl)
  have K := env_snew (Env.start w)
  obtain ⟨mb, hmb⟩ : ∃ mb, w.heap.size = mb := ⟨_, rfl⟩
  rw [hmb] at K hmm
  clear hl ho hone hpe
  go_enter Tryz.func71, Tryz.ntmps71
  go_upto_region 2 with fail

  obtain ⟨w1, hw1⟩ := K.name
  rw [← hw1] at K ⊢
  clear hw1 hmm
  go_upto_block 0 with (first
    | (go_at_call 77; ((with_reducible refine (HO.out _ K.hb).mono ?_); rintro r9 w9 ⟨oa, m, oc, rfl, lo, h9⟩; replace lo := TList.result (F := fun _ => False) K h9 (lo.mono (fun b _ hb => .inr hb)); replace K := K.on h9; clear h9 HO)))
  have hml := lo.length
  clear hmb
  go_wp2_with fail
  go_loopw [20] (fun x20 wr => ∃ (j : Nat) (f : Int → Option Value), x20 = .int .i64 (j : Int) ∧ j ≤ m ∧ RowKit.Hid (LeftD O j f) ∧ Env w wr [smapT mb f] ∧ VList wr (Quiet w (fun _ => False) wr [smapT mb f]) oa m oc O) (fun x20 _ => m - (intOf x20).toNat)
  case atStart => exact ⟨0, _, rfl, by omega, Lib.hid (left_zero O), K, lo⟩
  case round =>
    clear K lo
    obtain ⟨j, f, rfl, hj, HD, K, lo⟩ := hrel
    by_cases hlt : j < m
    · obtain ⟨x, e, rfl, he, c0, c1, c2, c3, c4, c5, c6, c7⟩ := ev_at lo j hlt
      have hjI : (j : Int) < (m : Int) := by omega
      have HQ := Lib.hid (left_next HONE.out he HD.out)
      obtain ⟨xr, xq, xs, xk, xb, xd, xe, xx⟩ := e
      simp only at c0 c1 c2 c3 c4 c5 c6 c7 HQ
      clear he
      have lo1 := lo.keep (K.keep_al (F := fun _ => False) (.cells #[.bool xr, .int .i64 xq, .int .i64 xs, .int .i64 xk, .int .i64 xb, .string xd, .int .i64 xe, .string xx] 55))
      clear lo
      go_upto_region 5 with fail
      replace K := K.al (.cells #[.bool xr, .int .i64 xq, .int .i64 xs, .int .i64 xk, .int .i64 xb, .string xd, .int .i64 xe, .string xx] 55)
      obtain ⟨gx, hg⟩ : ∃ gx, wr.heap.size = gx := ⟨_, rfl⟩
      rw [hg] at K
      simp only [hg]
      rw [hg] at lo1
      generalize wr.alloc (.cells #[.bool xr, .int .i64 xq, .int .i64 xs, .int .i64 xk, .int .i64 xb, .string xd, .int .i64 xe, .string xx] 55) = w3 at *
      clear c0 c1 c2 c3 c4 c5 c6 c7 hg
      obtain ⟨c0, c1, c2, c3, c4, c5, c6, c7⟩ := ev_cells (K.get 0 rfl)
      by_cases hz : xe = 0
      · have HN := Lib.hid (HQ.out.1 hz)
        subst hz
        obtain ⟨W', hup, KM, km⟩ := env_sput evm_und K 1 rfl xs (evV ⟨xr, xq, xs, xk, xb, xd, 0, xx⟩)
        have lo2 := lo1.keep (km _)
        simp only [List.set] at KM lo2
        clear HQ km lo1
        go_wp2_with (first
          | ((with_reducible refine Plan.load_lit 55 (.tmp 8) gx ?_ (K.get 0 rfl) Tryz.underlying55 ?_ ?_ ?_); (· rfl); (· rfl); (· exact ev_info); simp only [Act.put, List.setIfInBounds_toArray, List.set_cons_zero, List.set_cons_succ]))
        go_roundw
        case rel => exact ⟨j + 1, _, by go_num, by omega, HN, KM.tail, lo2.fewer (fun y hy => List.mem_cons_of_mem _ hy)⟩
        case measure => simp [intOf]; omega
      · have HN := Lib.hid (HQ.out.2 hz)
        have hzd : (xe == 0) = false := by simp [hz]
        clear HQ
        go_wp2_with (first
          | ((with_reducible refine Plan.load_lit 55 (.tmp 8) gx ?_ (K.get 0 rfl) Tryz.underlying55 ?_ ?_ ?_); (· rfl); (· rfl); (· exact ev_info); simp only [Act.put, List.setIfInBounds_toArray, List.set_cons_zero, List.set_cons_succ]))
        go_roundw
        case rel => exact ⟨j + 1, f, by go_num, by omega, HN, K.tail, lo1.fewer (fun y hy => List.mem_cons_of_mem _ hy)⟩
        case measure => simp [intOf]; omega
    · obtain rfl : j = m := by omega
      have hjI : ¬ (j : Int) < (j : Int) := by omega
      have HP0 := Lib.hid (show PickS O o 0 [] f from ⟨rfl, by simp, .nil, pick_zero (by omega) HD.out⟩)
      clear HD lo
      replace K := K.nil VR
      go_wp2_with fail
      go_loopw [9, 35] (fun x9 x35 wr => ∃ (k : Nat) (u : Value) (xs : List Ev) (f : Int → Option Value), x35 = .int .i64 (k : Int) ∧ k ≤ q ∧ x9 = u ∧ RowKit.Hid (PickS O o k xs f) ∧ Env w wr [Env.lst VR u k xs, smapT mb f]) (fun _ x35 _ => q - (intOf x35).toNat)
      case atStart => exact ⟨0, _, [], f, rfl, by omega, rfl, HP0, K⟩
      case round =>
        clear K HP0 f
        obtain ⟨k, u9, ys, f, rfl, hk, hu9, HP, K⟩ := hrel
        subst hu9
        by_cases hlt : k < q
        · obtain ⟨x, s, rfl, hs, c0⟩ := HAT2.out _ K.hb k hlt
          have hkI : (k : Int) < (q : Int) := by omega
          have HS := Lib.hid hs
          have hlk := (imap_look evm_und evm_zero (env_sget K 1 rfl).1 s).1
          clear hs
          cases hf : f s with
          | none =>
            rw [hf] at hlk
            simp only [Option.getD_none, Option.isSome_none, zeroEv] at hlk
            have HX := Lib.hid (picks_no HPE.out HP.out HS.out hf)
            clear hf
            go_wp2_with fail
            go_ret2
            exact pick_no (K.al' _).hb HX.out
          | some v =>
            obtain ⟨e, hem, rfl, hes, hps⟩ := picks_next HP.out HS.out hf
            rw [hf] at hlk
            simp only [Option.getD_some, Option.isSome_some] at hlk
            have HN := Lib.hid hps
            obtain ⟨xr, xq, xs, xk, xb, xd, xe, xx⟩ := e
            simp only at hlk hes
            subst hes
            clear hf hem hps
            go_upto_region 15 with fail
            replace K := K.al (.cells #[.bool xr, .int .i64 xq, .int .i64 xs, .int .i64 xk, .int .i64 xb, .string xd, .int .i64 xe, .string xx] 55)
            obtain ⟨gx, hg⟩ : ∃ gx, wr.heap.size = gx := ⟨_, rfl⟩
            rw [hg] at K
            simp only [hg]
            generalize wr.alloc (.cells #[.bool xr, .int .i64 xq, .int .i64 xs, .int .i64 xk, .int .i64 xb, .string xd, .int .i64 xe, .string xx] 55) = w3 at *
            clear c0 hg hlk
            obtain ⟨W', hdel, KM, _⟩ := env_sdrop evm_und K 2 rfl xs
            replace hdel := hdel 0
            simp only [List.set] at KM
            go_upto_region 16 with fail
            clear K hdel
            have K := KM
            clear KM
            obtain ⟨w5, hw5⟩ := K.name
            rw [← hw5] at K ⊢
            clear hw5
            have KB := K.al (.cells (VR.c ⟨xr, xq, xs, xk, xb, xd, xe, xx⟩).toArray VR.et)
            go_wp2_with (first
              | ((with_reducible refine Plan.load_lit 55 (.tmp 12) gx ?_ (K.get 0 rfl) Tryz.underlying55 ?_ ?_ ?_); (· rfl); (· rfl); (· exact ev_info); simp only [Act.put, List.setIfInBounds_toArray, List.set_cons_zero, List.set_cons_succ])
              | (refine KB.apps_one vrOk rfl (.tmp 49) (.tmp 51) rfl 2 0 rfl rfl (e := ⟨xr, xq, xs, xk, xb, xd, xe, xx⟩) rfl rfl (by omega) ?_; intro g3 c3 w8 K8 _; simp only [List.set] at K8; simp only [Act.put, List.setIfInBounds_toArray, List.set_cons_zero, List.set_cons_succ]; clear KB K))
            have K9 := K8.sub (T' := [Env.lst VR (Env.slv g3 (k + 1) c3) (k + 1) (ys ++ [⟨xr, xq, xs, xk, xb, xd, xe, xx⟩]), smapT mb (dropF f xs)]) [2, 3] rfl (by simp) (by simp)
            go_roundw
            case rel => exact ⟨k + 1, _, _, _, by go_num, by omega, rfl, HN, K9⟩
            case measure => simp [intOf]; omega
        · obtain rfl : k = q := by omega
          have hkI : ¬ (k : Int) < (k : Int) := by omega
          have hol2 := hlo.out
          replace K := K.sub (T' := [smapT mb f, Env.lst VR _ k ys]) [1, 0] rfl (by simp) (by simp)
          obtain ⟨es, ck, hst, h3, h4, K2⟩ := env_raw K
          have hrg := run_range_map (P := Tryz.prog) wr 141 3 55 mb es ck evm_und (env_rawget K2 0 rfl)
          have K3 := K2.al (.mapIter (some mb) ck #[] ck)
          obtain ⟨r, hr⟩ : ∃ r, wr.heap.size = r := ⟨_, rfl⟩
          rw [hr] at K3 hrg
          have HST := Lib.hid hst
          have H3 := Lib.hid h3
          have H4 := Lib.hid h4
          clear K K2 hst h3 h4 hr
          go_upto_block 4 with fail
          clear hrg
          generalize wr.alloc (.mapIter (some mb) ck #[] ck) = w3 at *
          go_wp2_with fail
          go_loopw [] (fun wr => ∃ (seen : Array Nat) (c0 : Nat), ck ≤ c0 ∧ RowKit.Hid (∀ e ∈ es.toList, seen.contains e.born = true → ∀ x, e.val = evV x → x.ret = false) ∧ Env w wr [.box r (.mapIter (some mb) ck seen c0), rawT mb es ck, Env.lst VR u9 k ys]) (fun wr => (leftOf es (wr.iterSeen r)).size)
          case atStart => exact ⟨#[], ck, Nat.le_refl _, Lib.hid (fun e _ h => by simp at h), K3⟩
          case round =>
            clear K3
            obtain ⟨seen, c0, hc0, HSEEN, K⟩ := hrel
            have hsn : wr.iterSeen r = seen := by unfold World.iterSeen; rw [K.get 0 rfl]
            rcases run_next_at (P := Tryz.prog) wr 0 r mb ck c0 seen es ck (K.get 0 rfl) (env_rawget K 1 rfl) HST.out.1 hc0 with ⟨h0, hn⟩ | ⟨e, he, w1, hw1, hn⟩
            · have HX := Lib.hid (show PickP O o ys from picks_yes HONE.out HP.out (by omega) (fun s x hf => by
                obtain ⟨e, hem, hek⟩ := H4.out s _ hf
                obtain ⟨z, hz, hfz⟩ := H3.out e hem
                rw [hek] at hz
                cases hz
                rw [hf] at hfz
                exact HSEEN.out e hem (all_seen es seen h0 e hem) x (Option.some.inj hfz).symm))
              clear h0
              go_wp2_with fail
              go_ret2
              obtain ⟨ra, rc, e9, lr⟩ := K.any vrOk 2 rfl
              subst e9
              exact ⟨_, _, _, ys, true, rfl, lr, K.hb, fun _ => HX.out, fun h => by cases h⟩
            · have hem : e ∈ es.toList := by
                unfold leftOf at he
                simp at he
                simpa using he.1
              have hsh := left_shrinks es seen e he
              obtain ⟨z, hek, hfz⟩ := H3.out e hem
              obtain ⟨x, hxO, hx0, hxs, hval, hxn⟩ := (HP.out.left z e.val).1 hfz
              have KI : Env w (ChangeMaps.setBlock w1 r (.mapIter (some mb) ck (seen.push e.born) ck)) [.box r (.mapIter (some mb) ck (seen.push e.born) ck), rawT mb es ck, Env.lst VR u9 k ys] := by
                rcases hw1 with rfl | rfl
                · exact env_iter K 0 rfl rfl
                · exact env_iter K.drew 0 rfl rfl
              generalize ChangeMaps.setBlock w1 r (.mapIter (some mb) ck (seen.push e.born) ck) = W2 at *
              have hent := run_entry_at (P := Tryz.prog) W2 r mb ck seen es ck e (KI.get 0 rfl) (env_rawget KI 1 rfl) hem HST.out.2.1
              rw [hval] at hn hent hfz
              have HVAL := Lib.hid hval
              have HE := Lib.hid hem
              obtain ⟨xr, xq, xs, xk, xb, xd, xe, xx⟩ := x
              cases xr with
              | true =>
                have HX := Lib.hid (picks_left HP.out (by omega) hfz evV_inj rfl)
                clear hfz hval hem he hsh
                go_wp2_with fail
                go_ret2
                exact pick_no (KI.al' _).hb HX.out
              | false =>
                have HS2 : RowKit.Hid (∀ e' ∈ es.toList, (seen.push e.born).contains e'.born = true → ∀ x, e'.val = evV x → x.ret = false) := Lib.hid (fun e' he' hc x hx => by
                  rw [Array.contains_push] at hc
                  by_cases h9 : seen.contains e'.born = true
                  · exact HSEEN.out e' he' h9 x hx
                  · have h8 : e'.born ∈ seen ∨ e'.born = e.born := by simpa using hc
                    have hbb : e'.born = e.born := h8.resolve_left (fun h => h9 (by simpa using h))
                    have : e' = e := born_one HST.out.2.1 he' HE.out hbb
                    subst this
                    rw [HVAL.out] at hx
                    rw [← evV_inj _ _ hx])
                clear hfz hval hem he
                go_wp2_with fail
                go_roundw
                case rel => exact ⟨_, _, Nat.le_refl _, HS2, (KI.al _).tail⟩
                case measure =>
                  rw [hsn]
                  have h9 : (W2.alloc (.cells #[.bool false, .int .i64 xq, .int .i64 xs, .int .i64 xk, .int .i64 xb, .string xd, .int .i64 xe, .string xx] 55)).iterSeen r = seen.push e.born := by unfold World.iterSeen; rw [(KI.al (.cells #[.bool false, .int .i64 xq, .int .i64 xs, .int .i64 xk, .int .i64 xb, .string xd, .int .i64 xe, .string xx] 55)).get 1 rfl]
                  rw [h9]
                  exact hsh
end Go.Proofs.YtnmhnjjehglcfaaGreat.Ents

/- What the program's Check asks is what a linearization is. Plain mathematics. -/
namespace Go.Proofs.YtnmhnjjehglcfaaGreat.SrchM
open LinMath HisMath ModMath CmdMath Ents
theorem right_errs {L : List Ev} (h : Right L) : ∀ x ∈ L, x.ret = false → x.err = 0 := by
  induction h with
  | nil => intro x hx; cases hx
  | inv _ hi ih =>
    intro x hx hr
    rcases List.mem_append.1 hx with hx | hx
    · exact ih x hx hr
    · obtain rfl := List.mem_singleton.1 hx
      exact hi.err
  | ret _ hi ih =>
    intro x hx hr
    rcases List.mem_append.1 hx with hx | hx
    · exact ih x hx hr
    · obtain rfl := List.mem_singleton.1 hx
      rw [hi.ret] at hr; cases hr
theorem ops_pend {L : List Ev} (hR : Right L) : ∀ x ∈ opsE L L.length, x.ret = false → x.err = 0 := fun x hx hr => by
  have h1 := (op_inv hR hx).2.2.1
  obtain ⟨e, he, her, rfl⟩ := (mem_ops hR).1 hx
  have h2 : ¬ 0 ≤ retI L e.serial := fun h => by
    rw [(op_cmd L e).2.2.2.1] at h1
    rw [h1.2 h] at hr; cases hr
  have h3 : opOf L e = e := by unfold opOf; rw [if_neg h2]
  rw [h3]
  exact right_errs hR e he her
theorem plc_none {q : Bool} {L : List Ev} {s : Int} (h : ∀ e ∈ L, e.ret = q → e.serial ≠ s) : ∀ n, plcF q L n s = none
  | 0 => rfl
  | n + 1 => by
    have ih := plc_none h n
    cases he : L[n]? with
    | none => simp [plcF, he, ih]
    | some e =>
      by_cases hq : e.ret = q
      · rw [(plc_next q he).1 hq]
        have : ¬ s = e.serial := fun e9 => h e (List.mem_of_getElem? he) hq e9.symm
        simp [putF, this, ih]
      · rw [(plc_next q he).2 hq]; exact ih
theorem lat_le {I : Int → Int} {o : List Int} {c : Int} : ∀ (k : Nat), latI I o k ≤ c ↔ 0 ≤ c ∧ ∀ (i : Nat) t, i < k → o[i]? = some t → I t ≤ c
  | 0 => ⟨fun h => ⟨h, fun i t hi => absurd hi (Nat.not_lt_zero _)⟩, fun h => h.1⟩
  | k + 1 => by
    have ih := lat_le (I := I) (o := o) (c := c) k
    cases hs : o[k]? with
    | none =>
      simp only [latI, hs]
      rw [ih]
      refine and_congr Iff.rfl ⟨fun h i t hi ht => ?_, fun h i t hi ht => h i t (by omega) ht⟩
      rcases Nat.lt_or_ge i k with h9 | h9
      · exact h i t h9 ht
      · obtain rfl : i = k := by omega
        rw [hs] at ht; cases ht
    | some s =>
      have h1 : latI I o (k + 1) ≤ c ↔ latI I o k ≤ c ∧ I s ≤ c := by
        rw [lat_next hs]
        split <;> omega
      rw [h1, ih, and_assoc]
      refine and_congr Iff.rfl ⟨fun h i t hi ht => ?_, fun h => ⟨fun i t hi ht => h i t (by omega) ht, h k s (by omega) hs⟩⟩
      rcases Nat.lt_or_ge i k with h9 | h9
      · exact h.1 i t h9 ht
      · obtain rfl : i = k := by omega
        rw [hs] at ht; cases ht; exact h.2
theorem pick_one {O : List Ev} (hone : ∀ x ∈ O, ∀ y ∈ O, x.serial = y.serial → x = y) {o : List Int} {xs ys : List Ev} (h : PickP O o xs) (h2 : PickP O o ys) : xs = ys := by
  have he : xs.map (·.serial) = ys.map (·.serial) := h.1.symm.trans h2.1
  apply List.ext_getElem?
  intro i
  have hi : (xs.map (·.serial))[i]? = (ys.map (·.serial))[i]? := by rw [he]
  rw [List.getElem?_map, List.getElem?_map] at hi
  cases hx : xs[i]? with
  | none => rw [hx] at hi; exact (Option.map_eq_none_iff.1 hi.symm).symm
  | some x =>
    rw [hx] at hi
    obtain ⟨y, hy, hys⟩ := Option.map_eq_some_iff.1 hi.symm
    rw [hy, hone x (h.2.1 x (List.mem_of_getElem? hx)) y (h2.2.1 y (List.mem_of_getElem? hy)) hys.symm]
theorem ord_iff {L : List Ev} (hR : Right L) {xs : List Ev} (hm : ∀ x ∈ xs, x ∈ opsE L L.length) : xs.Pairwise (fun t s => beforeB L s.serial t.serial = false) ↔ OrdP L L.length (xs.map (·.serial)) := by
  have hsome : ∀ x ∈ opsE L L.length, (plcF true L L.length x.serial).isSome = true ↔ x.ret = true := fun x hx => by
    constructor
    · intro h
      cases hr : x.ret with
      | true => rfl
      | false =>
        have h1 := (op_inv hR hx).2.2.1
        have h2 : retI L x.serial < 0 := by
          rcases Int.lt_or_le (retI L x.serial) 0 with h9 | h9
          · exact h9
          · rw [h1.2 h9] at hr; cases hr
        rw [plc_none (fun e he hq => ret_neg.1 h2 e he hq)] at h
        cases h
    · intro h; rw [plc_ret hR hx h]; rfl
  rw [List.pairwise_iff_getElem]
  constructor
  · intro h k s hs hq
    rw [List.getElem?_map] at hs
    obtain ⟨x, hx, rfl⟩ := Option.map_eq_some_iff.1 hs
    have hxo := hm x (List.mem_of_getElem? hx)
    have hret := (hsome x hxo).1 hq
    have hpr : plcI true L L.length x.serial = retI L x.serial := by unfold plcI; rw [plc_ret hR hxo hret]
    rw [hpr, lat_le]
    have h0 := (op_inv hR hxo).2.2.1.1 hret
    refine ⟨h0, fun i t hi ht => ?_⟩
    rw [List.getElem?_map] at ht
    obtain ⟨y, hy, rfl⟩ := Option.map_eq_some_iff.1 ht
    have hyo := hm y (List.mem_of_getElem? hy)
    rw [plc_invI hR hyo]
    obtain ⟨hkl, hke⟩ := List.getElem?_eq_some_iff.1 hx
    obtain ⟨hil, hie⟩ := List.getElem?_eq_some_iff.1 hy
    have h9 := h i k hil hkl hi
    rw [hke, hie] at h9
    have h8 := (op_inv hR hyo).1
    rcases Int.lt_or_le (retI L x.serial) (invI L y.serial) with h7 | h7
    · have : beforeB L x.serial y.serial = true := by
        simp only [beforeB, Bool.and_eq_true, decide_eq_true_eq]
        exact ⟨⟨h0, h8⟩, h7⟩
      rw [this] at h9; cases h9
    · exact h7
  · intro h i j hi hj hij
    cases hb : beforeB L xs[j].serial xs[i].serial with
    | false => rfl
    | true =>
      exfalso
      simp only [beforeB, Bool.and_eq_true, decide_eq_true_eq] at hb
      have hxo := hm xs[j] (List.getElem_mem hj)
      have hyo := hm xs[i] (List.getElem_mem hi)
      have hret := (op_inv hR hxo).2.2.1.2 hb.1.1
      have h9 := h j xs[j].serial (by rw [List.getElem?_map, List.getElem?_eq_getElem hj]; rfl) ((hsome _ hxo).2 hret)
      have hpr : plcI true L L.length xs[j].serial = retI L xs[j].serial := by unfold plcI; rw [plc_ret hR hxo hret]
      rw [hpr, lat_le] at h9
      have h8 := h9.2 i xs[i].serial hij (by rw [List.getElem?_map, List.getElem?_eq_getElem hi]; rfl)
      rw [plc_invI hR hyo] at h8
      omega
/-- what Check asks -/
theorem lin_pick {B : List ByteArray} {L : List Ev} (hR : Right L) {o : List Int} : linOk B L o = true ↔ ∃ xs, PickP (opsE L L.length) o xs ∧ OrdP L L.length o ∧ ResP B xs := by
  rw [lin_iff B (right_opn hR) o]
  constructor
  · rintro ⟨xs, rfl, h⟩
    exact ⟨xs, ⟨rfl, h.mem, h.nd, h.skip, h.must⟩, (ord_iff hR h.mem).1 h.ord, (res_run xs B).2 h.run⟩
  · rintro ⟨xs, ⟨rfl, h1, h2, h3, h4⟩, h5, h6⟩
    exact ⟨xs, rfl, h1, h2, h3, h4, (ord_iff hR h1).2 h5, (res_run xs B).1 h6⟩
end Go.Proofs.YtnmhnjjehglcfaaGreat.SrchM

/- The walk of the program's written. -/
namespace Go.Proofs.YtnmhnjjehglcfaaGreat.SrchM
/-- the values that can be: the first one, and what steps write -/
def wrtL (v : ByteArray) (S : List Stp) : List ByteArray := v :: (S.filter (fun a => !a.reads)).map (·.value)
theorem wrt_next {v : ByteArray} {S : List Stp} {j : Nat} {a : Stp} (h : S[j]? = some a) : (a.reads = false → wrtL v (S.take (j + 1)) = wrtL v (S.take j) ++ [a.value]) ∧ (a.reads = true → wrtL v (S.take (j + 1)) = wrtL v (S.take j)) := by
  unfold wrtL
  rw [HisMath.take_snoc h, List.filter_append]
  constructor
  · intro hr; simp [hr]
  · intro hr; simp [hr]
theorem wrt_mem {v u : ByteArray} {S : List Stp} : u ∈ wrtL v S ↔ u = v ∨ ∃ a ∈ S, a.reads = false ∧ a.value = u := by
  unfold wrtL
  rw [List.mem_cons, List.mem_map]
  refine or_congr Iff.rfl ⟨?_, ?_⟩
  · rintro ⟨a, ha, rfl⟩
    obtain ⟨h1, h2⟩ := List.mem_filter.1 ha
    exact ⟨a, h1, by simpa using h2, rfl⟩
  · rintro ⟨a, ha, hr, rfl⟩
    exact ⟨a, List.mem_filter.2 ⟨ha, by simp [hr]⟩, rfl⟩
end Go.Proofs.YtnmhnjjehglcfaaGreat.SrchM
namespace Go.Proofs.YtnmhnjjehglcfaaGreat.Ents
open Go.RowKit Plan HisMath LinMath ModMath CmdMath Rws Env LayMath SrchM
def WrtPost (v : ByteArray) (S : List Stp) (w : World) (r : Ending) (w' : World) : Prop :=
  ∃ (a : Option Addr) (n c : Nat) (E : List ByteArray), r = .returned (.slice a n c) ∧ SList w' (fun x => w.heap.size ≤ x) a n c E ∧ Below w.heap.size w w' ∧ AscS E ∧ ∀ u, u ∈ E ↔ u = v ∨ ∃ a ∈ S, a.reads = false ∧ a.value = u
set_option maxHeartbeats 8000000 in
set_option maxRecDepth 20000 in
theorem written_any (S : List Stp) (v : ByteArray) (sa : Option Addr) (sn sc : Nat) (hn : sn ≤ 30) (F : Nat → Prop) (w : World) (sl : PList w F sa sn sc S) :
    Calls Tryz.prog 55 #[.string v, .slice sa sn sc] w (WrtPost v S w) := by
  have hlen := sl.length
  obtain ⟨hcp, hcm⟩ := sl.cap
  unfold maxLen at hcm
  have HAT := Lib.hid (fun W (h : Below w.heap.size w W) i (hi : i < sn) => stp_at (sl.same h) i hi)
  have HTK := Lib.hid (show wrtL v (S.take sn) = wrtL v S from by rw [List.take_of_length_le (by omega)])
  have K := (Env.start w).lit srOk [v] 1 rfl (by decide)
  rw [show ([v] : List ByteArray) = wrtL v (S.take 0) from rfl] at K
  clear sl hlen
  go_enter Tryz.func55, Tryz.ntmps55
  go_upto_region 2 with fail
  obtain ⟨w1, hw1⟩ := K.name
  have hw2 : w1 = w.alloc (.cells #[.string v] 9) := hw1
  rw [← hw1] at K
  rw [← hw2]
  clear hw1 hw2
  generalize hG : w.heap.size = G at K
  clear hG
  go_wp2_with fail
  go_loopw [5, 12] (fun x5 x12 wr => ∃ (j k g c : Nat), x12 = .int .i64 (j : Int) ∧ j ≤ sn ∧ x5 = Env.slv g k c ∧ k ≤ j + 1 ∧ Env w wr [Env.lst SR (Env.slv g k c) k (wrtL v (S.take j))]) (fun _ x12 _ => sn - (intOf x12).toNat)
  case atStart => exact ⟨0, 1, G, 1, rfl, by omega, rfl, by omega, K⟩
  case round =>
    clear K
    obtain ⟨j, k, g, c, rfl, hj, rfl, hk, K⟩ := hrel
    by_cases hlt : j < sn
    · obtain ⟨x, a, rfl, ha, c0, c1, c2, c3, c4⟩ := HAT.out _ K.hb j hlt
      have hjI : (j : Int) < (sn : Int) := by omega
      have HQ := Lib.hid (wrt_next (v := v) ha)
      obtain ⟨ay, ar, av, af, au⟩ := a
      simp only at c0 c1 c2 c3 c4 HQ
      clear ha
      go_upto_region 5 with fail
      replace K := K.al (.cells #[.int .i64 ay, .bool ar, .string av, .int .i64 af, .int .i64 au] 94)
      obtain ⟨gx, hg⟩ : ∃ gx, wr.heap.size = gx := ⟨_, rfl⟩
      rw [hg] at K
      simp only [hg]
      generalize wr.alloc (.cells #[.int .i64 ay, .bool ar, .string av, .int .i64 af, .int .i64 au] 94) = w3 at *
      clear c0 c1 c2 c3 c4 hg
      obtain ⟨c0, c1, c2, c3, c4⟩ := stp_cells (K.get 0 rfl)
      cases ar with
      | true =>
        have HN := Lib.hid (HQ.out.2 rfl)
        replace K := K.tail
        rw [← HN.out] at K
        go_wp2_with fail
        go_roundw
        case rel => exact ⟨j + 1, k, g, c, by go_num, by omega, rfl, by omega, K⟩
        case measure => simp [intOf]; omega
      | false =>
        have HN := Lib.hid (HQ.out.1 rfl)
        have KB := K.al (.cells (SR.c av).toArray SR.et)
        go_wp2_with (first
          | (refine KB.apps_one srOk rfl (.tmp 19) (.tmp 22) rfl 2 0 rfl rfl (e := av) rfl rfl (by omega) ?_; intro g3 c3' w4 K8 _; simp only [List.set] at K8; simp only [Act.put, List.setIfInBounds_toArray, List.set_cons_zero, List.set_cons_succ]; clear KB K))
        have K9 := K8.sub (T' := [Env.lst SR (Env.slv g3 (k + 1) c3') (k + 1) (wrtL v (S.take (j + 1)))]) [2] (by rw [HN.out]; rfl) (by simp) (by simp)
        go_roundw
        case rel => exact ⟨j + 1, k + 1, g3, c3', by go_num, by omega, rfl, by omega, K9⟩
        case measure => simp [intOf]; omega
    · obtain rfl : j = sn := by omega
      have hjI : ¬ (j : Int) < (j : Int) := by omega
      rw [HTK.out] at K
      have HSO := Lib.hid (sort_own K (by omega))
      have HCO := Lib.hid (fun W ML (K : Env w W [Env.lst SR (Env.slv g k c) k ML]) (hs : SortedS ML) => compact_own K (by omega) hs)
      clear HAT
      go_wp2_with (first
        | (go_at_call 90; ((with_reducible refine HSO.out.mono ?_); rintro r9 w5 ⟨rfl, ML, K5, hs, hmem⟩; have HS5 := Lib.hid hs; have HM5 := Lib.hid hmem; clear hs hmem K; have K := K5; clear K5 HSO))
        | (go_at_call 91; ((with_reducible refine (HCO.out _ _ K HS5.out).mono ?_); rintro r9 w6 ⟨m, E, rfl, K6, ha, hme⟩; have HA := Lib.hid ha; have HE := Lib.hid hme; clear ha hme K; have K := K6; clear K6 HCO)))
      go_ret
      obtain ⟨ea, ec, e9, le⟩ := K.any srOk 0 rfl
      obtain ⟨rfl, -, rfl⟩ := Value.slice.inj e9
      exact ⟨_, _, _, E, rfl, le, K.hb, HA.out, fun u => by rw [HE.out u, HM5.out u, wrt_mem]⟩
end Go.Proofs.YtnmhnjjehglcfaaGreat.Ents

/- The walk of the program's Values. -/
namespace Go.Proofs.YtnmhnjjehglcfaaGreat.Ents
open Go.RowKit Plan HisMath LinMath ModMath CmdMath Rws Env LayMath SrchM
theorem clip_any (sa : Option Addr) (sn sc : Nat) (h : sn ≤ sc) (w : World) : Calls Tryz.prog 56 #[.slice sa sn sc] w fun r w' => r = .returned (.slice sa sn sn) ∧ Below w.heap.size w w' := by
  have hI : (sn : Int) ≤ (sc : Int) := by omega
  have hb := Below.refl w.heap.size w
  cases sa with
  | none =>
    go_enter Tryz.func56, Tryz.ntmps56
    go_wp2_with fail
    go_ret
    exact ⟨rfl, hb⟩
  | some x =>
    go_enter Tryz.func56, Tryz.ntmps56
    go_wp2_with fail
    go_ret
    exact ⟨rfl, hb⟩
open Classical in
/-- the values that the block can have at the end, of some -/
noncomputable def canL (v : ByteArray) (L : List Ev) (E : List ByteArray) : List ByteArray := E.filter fun u => decide (Compl (stepsV L u) 0 v)
theorem can_mem {v : ByteArray} {L : List Ev} {E : List ByteArray} {u : ByteArray} : u ∈ canL v L E ↔ u ∈ E ∧ Compl (stepsV L u) 0 v := by
  unfold canL
  rw [List.mem_filter]
  simp
theorem can_next {v : ByteArray} {L : List Ev} {E : List ByteArray} {j : Nat} {u : ByteArray} (h : E[j]? = some u) : (Compl (stepsV L u) 0 v → canL v L (E.take (j + 1)) = canL v L (E.take j) ++ [u]) ∧ (¬ Compl (stepsV L u) 0 v → canL v L (E.take (j + 1)) = canL v L (E.take j)) := by
  unfold canL
  rw [take_snoc h, List.filter_append]
  constructor
  · intro hc; simp [hc]
  · intro hc; simp [hc]
set_option maxHeartbeats 8000000 in
set_option maxRecDepth 20000 in
theorem values_any (F : Nat → Prop) (v : ByteArray) (L : List Ev) (a : Option Addr) (n c : Nat) (w : World) (hl : VList w F a n c L) (hm : n ≤ 100000) :
    Calls Tryz.prog 22 #[.string v, .slice a n c] w (ValPost v L w) := by
  have hlen := Lib.hid hl.length
  have HS := Lib.hid (stepsOf_any F v L a n c w hl hm)
  have hb := Below.refl w.heap.size w
  clear hl
  go_enter Tryz.func22, Tryz.ntmps22
  go_upto_region 2 with (first
    | (go_at_call 53; ((with_reducible refine HS.out.mono ?_); rintro r9 w1 ⟨sa, sn, sc, S, b, rfl, ls, h9, hy, hn⟩; replace hb := hb.trans h9; clear h9 HS)))
  cases b with
  | false =>
    have HN := Lib.hid (hn rfl)
    clear hn hy ls
    go_wp2_with fail
    go_ret
    refine ⟨none, 0, 0, [], rfl, TList.nil _ _, hb, List.Pairwise.nil, fun u => ⟨fun h => (by cases h), fun h => ?_⟩⟩
    exact absurd ⟨h.1, (ends_lin (single_parts h.1).1).1 ⟨u, h.2⟩⟩ HN.out
  | true =>
    obtain ⟨h1, h2, h3⟩ := hy rfl
    subst h3
    have H1 := Lib.hid h1
    have H2 := Lib.hid h2
    have hsn : sn ≤ 20 := by have := ls.length; have := steps_len h1; omega
    have HW := Lib.hid (written_any (stepsL L) v sa sn sc (by omega) _ w1 ls)
    have hcap := ls.cap
    have HLS := Lib.hid ls
    clear h1 h2 hn hy ls
    go_upto_block 0 with (first
      | (go_at_call 55; ((with_reducible refine HW.out.mono ?_); rintro r9 w2 ⟨ea, en, ec, E, rfl, le, h9, ha, hme⟩; have HA := Lib.hid ha; have HME := Lib.hid hme; have ls := Lib.hid (HLS.out.same h9); replace hb := hb.trans (h9.mono hb.size); clear h9 ha hme HW HLS)))
    have HB := Lib.hid hb
    have hel := le.length
    have hen : en ≤ 100000 := by
      have h9 := asc_nodup HA.out
      have h8 := nodup_le (l := E) (m := wrtL v (stepsL L)) h9 (fun x hx => wrt_mem.2 ((HME.out x).1 hx))
      have h7 : (wrtL v (stepsL L)).length ≤ (stepsL L).length + 1 := by unfold wrtL; rw [List.length_cons, List.length_map]; have := List.length_filter_le (fun a : Stp => !a.reads) (stepsL L); omega
      have := ls.out.length
      omega
    have HAT := Lib.hid (fun W (h : Below w2.heap.size w2 W) i (hi : i < en) => str_at (le.same h) i hi)
    have HCL := Lib.hid (fun W => clip_any sa sn sc hcap.1 W)
    have HFI := Lib.hid (fun u W G sa' sc' (hu : u.size = 16) (lv : PList W G sa' (sn + 1) sc' (stepsL L ++ [lastS L u])) => find_any (stepsV L u) (stepsV_ok H2.out.right (by have := H2.out.len; omega)) v (by have := (sizes_parts (single_parts H1.out).1).2.2.2.2 v List.mem_cons_self; unfold maxLen; omega) (fun a ha => by
      rcases List.mem_append.1 ha with h9 | h9
      · have := step_size H2.out a h9; unfold maxLen; omega
      · rw [List.mem_singleton.1 h9]; show u.size ≤ maxLen; unfold maxLen; omega) sa' (sn + 1) sc' (by omega) G W lv)
    have HU := Lib.hid (fun u (hu : u ∈ E) => (show u.size = 16 from by
      rcases (HME.out u).1 hu with rfl | ⟨a, ha, _, rfl⟩
      · exact (sizes_parts (single_parts H1.out).1).2.2.2.2 _ List.mem_cons_self
      · exact step_size H2.out a ha))
    have K := (Env.start w2).nil SR
    rw [show ([] : List ByteArray) = canL v L (E.take 0) from rfl] at K
    clear hb le
    go_wp2_with fail
    go_loopw [7, 25] (fun x7 x25 wr => ∃ (j k : Nat) (uu : Value), x25 = .int .i64 (j : Int) ∧ j ≤ en ∧ x7 = uu ∧ k ≤ j ∧ Env w2 wr [Env.lst SR uu k (canL v L (E.take j))]) (fun _ x25 _ => en - (intOf x25).toNat)
    case atStart => exact ⟨0, 0, _, rfl, by omega, rfl, by omega, K⟩
    case round =>
      clear K
      obtain ⟨j, k, uu, rfl, hj, rfl, hk, K⟩ := hrel
      by_cases hlt : j < en
      · obtain ⟨x, u, rfl, hu, c0⟩ := HAT.out _ K.hb j hlt
        have hjI : (j : Int) < (en : Int) := by omega
        have HQ := Lib.hid (can_next (v := v) (L := L) hu)
        have hu16 := HU.out u (List.mem_of_getElem? hu)
        replace HFI := Lib.hid (fun W G sa' sc' lv => HFI.out u W G sa' sc' hu16 lv)
        clear hu hu16
        go_upto_region 9 with fail
        replace K := K.al (.cells #[.int .i64 0, .bool true, .string u, .int .i64 (n : Int), .int .i64 9223372036854775807] 94)
        obtain ⟨gx, hg⟩ : ∃ gx, wr.heap.size = gx := ⟨_, rfl⟩
        rw [hg] at K
        simp only [hg]
        generalize wr.alloc (.cells #[.int .i64 0, .bool true, .string u, .int .i64 (n : Int), .int .i64 9223372036854775807] 94) = w3 at *
        clear c0 hg
        refine Tree.start (fun W => W.cell? ⟨gx, 0, none⟩ = some (.int .i64 0) ∧ W.cell? ⟨gx, 1, none⟩ = some (.bool true) ∧ W.cell? ⟨gx, 2, none⟩ = some (.string u) ∧ W.cell? ⟨gx, 3, none⟩ = some (.int .i64 (n : Int)) ∧ W.cell? ⟨gx, 4, none⟩ = some (.int .i64 9223372036854775807)) (.take 0 (.take 1 (.take 3 (.fork 2 (.only 4 (.only 5 (.only 6 (.take 7 (.take 8 (.take 9 (.take 10 (.take 11 (.done))))))))) 4 (.only 2 (.only 5 (.only 6 (.take 7 (.take 8 (.take 9 (.take 10 (.take 11 (.done))))))))))))) (by kernel_rfl) (by kernel_rfl) (by kernel_rfl) (by kernel_rfl) (stp_cells (K.drew.get 0 rfl)) ?_
        simp only [Tree.T.map, List.getElem?_toArray, List.getElem?_cons_zero, List.getElem?_cons_succ]
        replace K := K.drew
        obtain ⟨w4, hw4⟩ := K.name
        rw [← hw4] at K ⊢
        clear hw4
        repeat (refine Tree.take ?_ (by rfl) ?_ ?_; rotate_left; (· rintro w9 ⟨u0, u1, u2, u3, u4⟩; go_simp; all_goals (with_reducible rfl)); simp only [Act.put, List.setIfInBounds_toArray, List.set_cons_zero, List.set_cons_succ])
        refine Tree.fork (by rfl) (by rfl) ?_ ?_
        · skip
          refine (Tree.wp_call 56 _ ?_ (HCL.out _) ?_)
          · go_simp
          rintro e9 w6 ⟨rfl, h9⟩
          replace K := K.on h9
          clear h9
          refine ⟨_, rfl, (stp_cells (K.get 0 rfl)), ?_⟩
          simp only [Act.put, List.setIfInBounds_toArray, List.set_cons_zero, List.set_cons_succ]
          have K9 := K.al (.cells #[.int .i64 0, .bool true, .string u, .int .i64 (n : Int), .int .i64 9223372036854775807] 94)
          refine Tree.only (by rfl) (Tree.wp_make (.slice (some ⟨w6.heap.size, 0, none⟩) 1 1) _ ?_ ⟨(stp_cells (K9.get 1 rfl)), ?_⟩)
          · go_simp
          simp only [Act.put, List.setIfInBounds_toArray, List.set_cons_zero, List.set_cons_succ]
          clear K
          have K := K9
          clear K9
          obtain ⟨w7, hw7⟩ := K.name
          rw [← hw7] at K ⊢
          clear hw7
          refine Tree.only (by rfl) (K.app_full strOk (.tmp 36) (.tmp 38) rfl (ls.out.same K.hb) (by omega) rfl 0 (e := (⟨0, true, u, (n : Int), 9223372036854775807⟩ : Stp)) rfl rfl ?_)
          intro g3 c3 w8 K8 _
          rw [show (⟨0, true, u, (n : Int), 9223372036854775807⟩ : Stp) = lastS L u from by unfold lastS; rw [hlen.out]; rfl] at K8
          refine ⟨(stp_cells (K8.get 2 rfl)), ?_⟩
          simp only [Act.put, List.setIfInBounds_toArray, List.set_cons_zero, List.set_cons_succ]
          clear K
          have K := K8
          clear K8
          obtain ⟨va, vc, ev, lv⟩ := K.any strOk 0 rfl
          obtain ⟨rfl, -, rfl⟩ := Value.slice.inj ev
          refine Tree.only (by rfl) (Tree.wp_call 54 _ ?_ (HFI.out _ _ _ _ lv) ?_)
          · go_simp
          rintro e9 w9 ⟨la, ln, lc, l, q, rfl, -, h9, hq, -, -⟩
          replace K := K.on h9
          clear h9 lv
          refine ⟨_, rfl, (stp_cells (K.get 2 rfl)), ?_⟩
          simp only [Act.put, List.setIfInBounds_toArray, List.set_cons_zero, List.set_cons_succ]
          repeat (refine Tree.take ?_ (by rfl) ?_ ?_; rotate_left; (· rintro w9 ⟨u0, u1, u2, u3, u4⟩; go_simp; all_goals (with_reducible rfl)); simp only [Act.put, List.setIfInBounds_toArray, List.set_cons_zero, List.set_cons_succ])
          refine Tree.ends ?_
          have K9 := K.sub (T' := [Env.lst SR _ k (canL v L (E.take j))]) [3] rfl (by simp) (by simp)
          clear K
          have K := K9
          clear K9
          cases q with
          | true =>
            have HN := Lib.hid (HQ.out.1 (hq.1 rfl))
            clear hq
            have KB := K.al (.cells (SR.c u).toArray SR.et)
            go_wp2_with (first
              | (refine KB.apps_one srOk rfl (.tmp 44) (.tmp 46) rfl 1 0 rfl rfl (e := u) rfl rfl (by omega) ?_; intro g4 c4 w10 K8 _; simp only [List.set] at K8; simp only [Act.put, List.setIfInBounds_toArray, List.set_cons_zero, List.set_cons_succ]; clear KB K))
            have K9 := K8.tail
            rw [← HN.out] at K9
            go_roundw
            case rel => exact ⟨j + 1, k + 1, _, by go_num, by omega, rfl, by omega, K9⟩
            case measure => simp [intOf]; omega
          | false =>
            have HN := Lib.hid (HQ.out.2 (fun h => by have := hq.2 h; cases this))
            clear hq
            rw [← HN.out] at K
            go_wp2_with fail
            go_roundw
            case rel => exact ⟨j + 1, k, _, by go_num, by omega, rfl, by omega, K⟩
            case measure => simp [intOf]; omega
        · skip
          have K9 := K.al (.cells #[.int .i64 0, .bool true, .string u, .int .i64 (n : Int), .int .i64 9223372036854775807] 94)
          refine (Tree.wp_make (.slice (some ⟨w4.heap.size, 0, none⟩) 1 1) _ ?_ ⟨(stp_cells (K9.get 1 rfl)), ?_⟩)
          · go_simp
          simp only [Act.put, List.setIfInBounds_toArray, List.set_cons_zero, List.set_cons_succ]
          clear K
          have K := K9
          clear K9
          refine Tree.only (by rfl) (Tree.wp_call 56 _ ?_ (HCL.out _) ?_)
          · go_simp
          rintro e9 w6 ⟨rfl, h9⟩
          replace K := K.on h9
          clear h9
          refine ⟨_, rfl, (stp_cells (K.get 1 rfl)), ?_⟩
          simp only [Act.put, List.setIfInBounds_toArray, List.set_cons_zero, List.set_cons_succ]
          obtain ⟨w7, hw7⟩ := K.name
          rw [← hw7] at K ⊢
          clear hw7
          refine Tree.only (by rfl) (K.app_full strOk (.tmp 36) (.tmp 38) rfl (ls.out.same K.hb) (by omega) rfl 0 (e := (⟨0, true, u, (n : Int), 9223372036854775807⟩ : Stp)) rfl rfl ?_)
          intro g3 c3 w8 K8 _
          rw [show (⟨0, true, u, (n : Int), 9223372036854775807⟩ : Stp) = lastS L u from by unfold lastS; rw [hlen.out]; rfl] at K8
          refine ⟨(stp_cells (K8.get 2 rfl)), ?_⟩
          simp only [Act.put, List.setIfInBounds_toArray, List.set_cons_zero, List.set_cons_succ]
          clear K
          have K := K8
          clear K8
          obtain ⟨va, vc, ev, lv⟩ := K.any strOk 0 rfl
          obtain ⟨rfl, -, rfl⟩ := Value.slice.inj ev
          refine Tree.only (by rfl) (Tree.wp_call 54 _ ?_ (HFI.out _ _ _ _ lv) ?_)
          · go_simp
          rintro e9 w9 ⟨la, ln, lc, l, q, rfl, -, h9, hq, -, -⟩
          replace K := K.on h9
          clear h9 lv
          refine ⟨_, rfl, (stp_cells (K.get 2 rfl)), ?_⟩
          simp only [Act.put, List.setIfInBounds_toArray, List.set_cons_zero, List.set_cons_succ]
          repeat (refine Tree.take ?_ (by rfl) ?_ ?_; rotate_left; (· rintro w9 ⟨u0, u1, u2, u3, u4⟩; go_simp; all_goals (with_reducible rfl)); simp only [Act.put, List.setIfInBounds_toArray, List.set_cons_zero, List.set_cons_succ])
          refine Tree.ends ?_
          have K9 := K.sub (T' := [Env.lst SR _ k (canL v L (E.take j))]) [3] rfl (by simp) (by simp)
          clear K
          have K := K9
          clear K9
          cases q with
          | true =>
            have HN := Lib.hid (HQ.out.1 (hq.1 rfl))
            clear hq
            have KB := K.al (.cells (SR.c u).toArray SR.et)
            go_wp2_with (first
              | (refine KB.apps_one srOk rfl (.tmp 44) (.tmp 46) rfl 1 0 rfl rfl (e := u) rfl rfl (by omega) ?_; intro g4 c4 w10 K8 _; simp only [List.set] at K8; simp only [Act.put, List.setIfInBounds_toArray, List.set_cons_zero, List.set_cons_succ]; clear KB K))
            have K9 := K8.tail
            rw [← HN.out] at K9
            go_roundw
            case rel => exact ⟨j + 1, k + 1, _, by go_num, by omega, rfl, by omega, K9⟩
            case measure => simp [intOf]; omega
          | false =>
            have HN := Lib.hid (HQ.out.2 (fun h => by have := hq.2 h; cases this))
            clear hq
            rw [← HN.out] at K
            go_wp2_with fail
            go_roundw
            case rel => exact ⟨j + 1, k, _, by go_num, by omega, rfl, by omega, K⟩
            case measure => simp [intOf]; omega
      · obtain rfl : j = en := by omega
        have hjI : ¬ (j : Int) < (j : Int) := by omega
        have HTK := Lib.hid (show E.take j = E from List.take_of_length_le (by omega))
        rw [HTK.out] at K
        go_wp2_with fail
        go_ret
        obtain ⟨ra, rc, rfl, lr⟩ := K.any srOk 0 rfl
        refine ⟨_, _, _, canL v L E, rfl, lr.mono (fun b _ h => Nat.le_trans HB.out.size h), HB.out.trans (K.hb.mono HB.out.size), List.Pairwise.sublist List.filter_sublist HA.out, fun u => ?_⟩
        rw [end_iff H2.out H1.out, ← HME.out u]
        exact can_mem
end Go.Proofs.YtnmhnjjehglcfaaGreat.Ents
