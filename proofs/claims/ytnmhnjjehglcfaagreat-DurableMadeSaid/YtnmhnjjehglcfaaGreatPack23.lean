/- Texts that belong together, part 23. -/
import Derived.Test.YtnmhnjjehglcfaaGreatPack20
import Derived.Lib.SlicesCompact
import Derived.MapKept
import Derived.Maps.Own
import Derived.DeepKeys3

/- The walks of the program's calls, results, Operations and Pending of histories. -/
namespace Go.Proofs.YtnmhnjjehglcfaaGreat.Ents
open Go.RowKit Plan HisMath Rws Env LayMath CmdMath
theorem resm_und : Tryz.prog.underlying 148 = some (.map 3 53) := by kernel_rfl
theorem resm_zero (W : World) : (zeroValue 53).run Tryz.prog W = .ok (.agg #[.int .i64 0, .string ⟨#[]⟩]) W := by kernel_rfl
abbrev rsV (e : Ev) : Value := .agg #[.int .i64 e.err, .string e.res]
def rsF (L : List Ev) (j : Nat) : Int → Option Value := fun z => (retE L j z).map rsV
theorem rsF_same {L : List Ev} {j : Nat} {e : Ev} (he : L[j]? = some e) (h : e.ret = false ∨ (retE L j e.serial).isSome = true) : rsF L (j + 1) = rsF L j := by
  funext z
  unfold rsF
  rw [ret_next he, if_neg]
  rintro ⟨h1, h2, h3⟩
  rcases h with h | h
  · rw [h] at h1; cases h1
  · rw [h2, h3] at h; cases h
theorem rsF_more {L : List Ev} {j : Nat} {e : Ev} (he : L[j]? = some e) (h : e.ret = true) (hn : retE L j e.serial = none) : rsF L (j + 1) = putF (rsF L j) e.serial (rsV e) := by
  funext z
  unfold rsF putF
  rw [ret_next he]
  by_cases hz : z = e.serial
  · subst hz
    rw [if_pos ⟨h, rfl, hn⟩, if_pos rfl]
    rfl
  · rw [if_neg (fun h2 => hz h2.2.1.symm), if_neg hz]
/-- what results leaves -/
def RMPost (w : World) (f : Int → Option Value) (r : Ending) (w' : World) : Prop :=
  ∃ mb, r = .returned (.map (some mb)) ∧ w.heap.size ≤ mb ∧ IMap w' mb f ∧ Below w.heap.size w w'
set_option maxHeartbeats 8000000 in
set_option maxRecDepth 20000 in
theorem hisCalls_any (F : Nat → Prop) (L : List Ev) (a : Option Addr) (n c : Nat) (w : World) (hl : VList w F a n c L) (hm : n ≤ 100000) :
    Calls Tryz.prog 100 #[.slice a n c] w (OVPost w (callsE L n)) := by
  have HAT := Lib.hid (fun W (h : Below w.heap.size w W) i (hi : i < n) => ev_at (hl.same h) i hi)
  have hmm := fun W => (show (Instr.makeMap 75 none).run Tryz.prog W = .ok (.map (some W.heap.size)) (W.alloc (.map #[] 0)) from rfl)
  have K := (env_imap (Env.start w)).nil VR
  have HS := Lib.hid (seen_start L)
  unfold OVPost
  clear hl
  go_enter Tryz.func100, Tryz.ntmps100
  go_wp2_with fail
  clear hmm
  generalize hmb : w.heap.size = mb at *
  generalize w.alloc (.map #[] 0) = w0 at *
  go_loopw [3, 10] (fun v x wr => ∃ (j k : Nat) (u : Value) (Sn : List Int), x = .int .i64 (j : Int) ∧ j ≤ n ∧ v = u ∧ k ≤ j ∧ RowKit.Hid (SeenI L j Sn) ∧ Env w wr [Env.lst VR u k (callsE L j), iseenT mb Sn]) (fun _ x _ => n - (intOf x).toNat)
  case atStart => exact ⟨0, 0, _, [], rfl, by omega, rfl, by omega, HS, K⟩
  case round =>
    clear K HS
    obtain ⟨j, k, u, Sn, rfl, hj, rfl, hk, HS, K⟩ := hrel
    by_cases hlt : j < n
    · obtain ⟨x, e, rfl, he, c0, c1, c2, c3, c4, c5, c6, c7⟩ := HAT.out wr (hmb ▸ K.hb) j hlt
      have hjI : (j : Int) < (n : Int) := by omega
      have HQ := Lib.hid (calls_next he)
      have HS0 := Lib.hid (fun h => seen_same HS.out he h)
      have HS1 := Lib.hid (fun h => seen_more HS.out he h)
      have hask := seen_ask HS.out e.serial
      have hP := Lib.hid (Eq.refl (opsB L j e))
      generalize hp : opsB L j e = p at *
      simp only [opsB] at hp
      obtain ⟨er, eq, es, ek, eb, ed, ee, ex⟩ := e
      simp only at c0 c1 c2 c3 c4 c5 c6 c7 HS1 hask hp
      clear he hP HS
      generalize callsE L j = RX at *
      go_upto_region 6 with fail
      replace K := K.al (.cells #[.bool er, .int .i64 eq, .int .i64 es, .int .i64 ek, .int .i64 eb, .string ed, .int .i64 ee, .string ex] 55)
      obtain ⟨g, hg⟩ : ∃ g, wr.heap.size = g := ⟨_, rfl⟩
      rw [hg] at K
      simp only [hg]
      generalize wr.alloc (.cells #[.bool er, .int .i64 eq, .int .i64 es, .int .i64 ek, .int .i64 eb, .string ed, .int .i64 ee, .string ex] 55) = w1 at *
      clear c0 c1 c2 c3 c4 c5 c6 c7 hg
      obtain ⟨c0, c1, c2, c3, c4, c5, c6, c7⟩ := ev_cells (K.get 0 rfl)
      cases er with
      | true =>
        obtain rfl : p = false := by rw [← hp]; rfl
        replace HQ := HQ.out.2 rfl
        replace HS := Lib.hid (HS0.out rfl)
        clear hask hp HS0 HS1
        replace K := K.sub (T' := [Env.lst VR _ k RX, iseenT mb Sn]) [1, 2] rfl (by simp) (by simp)
        rw [← HQ] at K
        clear HQ
        go_wp2_with fail
        go_roundw
        case rel => exact ⟨j + 1, k, _, Sn, by go_num, by omega, rfl, by omega, HS, K⟩
        case measure => simp [intOf]; omega
      | false =>
        have hlk := iseen_look (env_iseen K 2 rfl) es
        cases p with
        | false =>
          have hh : decide (es ∈ Sn) = true := by rw [hask]; simpa using hp
          rw [hh] at hlk
          replace HQ := HQ.out.2 rfl
          replace HS := Lib.hid (HS0.out rfl)
          clear hask hp HS0 HS1 hh
          replace K := K.sub (T' := [Env.lst VR _ k RX, iseenT mb Sn]) [1, 2] rfl (by simp) (by simp)
          rw [← HQ] at K
          clear HQ
          go_wp2_with fail
          go_roundw
          case rel => exact ⟨j + 1, k, _, Sn, by go_num, by omega, rfl, by omega, HS, K⟩
          case measure => simp [intOf]; omega
        | true =>
          have hh : decide (es ∈ Sn) = false := by rw [hask]; simpa using hp
          rw [hh] at hlk
          replace HQ := Lib.hid (HQ.out.1 rfl)
          replace HS := Lib.hid (HS1.out rfl)
          obtain ⟨W', hup, KM, _⟩ := env_iput K 2 rfl (of_decide_eq_false hh)
          simp only [List.set] at KM
          clear hask hp HS0 HS1 hh
          go_upto_region 8 with fail
          clear hup hlk K c0 c1 c2 c3 c4 c5 c6 c7
          have KB := KM.al (.cells #[.bool false, .int .i64 eq, .int .i64 es, .int .i64 ek, .int .i64 eb, .string ed, .int .i64 ee, .string ex] 55)
          go_wp2_with (first
            | ((with_reducible refine Plan.load_lit 55 (.tmp 6) g ?_ (KM.get 0 rfl) Tryz.underlying55 ?_ ?_ ?_); (· rfl); (· rfl); (· exact ev_info); simp only [Act.put, List.setIfInBounds_toArray, List.set_cons_zero, List.set_cons_succ])
            | (refine KB.apps_one vrOk rfl (.tmp 27) (.tmp 29) rfl 2 0 rfl rfl (e := ⟨false, eq, es, ek, eb, ed, ee, ex⟩) rfl rfl (by omega) ?_; intro g3 c3 w3 K8 k8; simp only [List.set] at K8 k8; simp only [Act.put, List.setIfInBounds_toArray, List.set_cons_zero, List.set_cons_succ]; clear KB KM k8))
          have K9 := K8.sub (T' := [Env.lst VR (Env.slv g3 (k + 1) c3) (k + 1) (RX ++ [⟨false, eq, es, ek, eb, ed, ee, ex⟩]), iseenT mb (es :: Sn)]) [2, 3] rfl (by simp) (by simp)
          rw [← HQ.out] at K9
          go_roundw
          case rel => exact ⟨j + 1, k + 1, _, es :: Sn, by go_num, by omega, rfl, by omega, HS, K9⟩
          case measure => simp [intOf]; omega
    · obtain rfl : j = n := by omega
      have hjI : ¬ (j : Int) < (j : Int) := by omega
      go_wp2_with fail
      go_ret
      subst hmb
      exact ⟨_, rfl, ⟨_, K.own 0 rfl⟩, K.hb⟩
set_option maxHeartbeats 8000000 in
set_option maxRecDepth 20000 in
theorem hisResults_any (F : Nat → Prop) (L : List Ev) (a : Option Addr) (n c : Nat) (w : World) (hl : VList w F a n c L) :
    Calls Tryz.prog 101 #[.slice a n c] w (RMPost w (rsF L n)) := by
  have hcp := hl.cap
  unfold maxLen at hcp
  have HAT := Lib.hid (fun W (h : Below w.heap.size w W) i (hi : i < n) => ev_at (hl.same h) i hi)
  have hmm := fun W => (show (Instr.makeMap 148 none).run Tryz.prog W = .ok (.map (some W.heap.size)) (W.alloc (.map #[] 0)) from rfl)
  have K := env_mnew (Env.start w)
  rw [show (fun _ => none : Int → Option Value) = rsF L 0 from funext fun z => by simp [rsF, ret_start]] at K
  unfold RMPost
  clear hl
  go_enter Tryz.func101, Tryz.ntmps101
  go_wp2_with fail
  clear hmm
  generalize hmb : w.heap.size = mb at *
  generalize w.alloc (.map #[] 0) = w0 at *
  go_loopw [11] (fun x wr => ∃ (j : Nat), x = .int .i64 (j : Int) ∧ j ≤ n ∧ Env w wr [imapT mb (rsF L j)]) (fun x _ => n - (intOf x).toNat)
  case atStart => exact ⟨0, rfl, by omega, K⟩
  case round =>
    clear K
    obtain ⟨j, rfl, hj, K⟩ := hrel
    by_cases hlt : j < n
    · obtain ⟨x, e, rfl, he, c0, c1, c2, c3, c4, c5, c6, c7⟩ := HAT.out wr (hmb ▸ K.hb) j hlt
      have hjI : (j : Int) < (n : Int) := by omega
      have HQ0 := Lib.hid (fun h => rsF_same he h)
      have HQ1 := Lib.hid (fun h1 h2 => rsF_more he h1 h2)
      obtain ⟨er, eq, es, ek, eb, ed, ee, ex⟩ := e
      simp only at c0 c1 c2 c3 c4 c5 c6 c7 HQ0 HQ1
      clear he
      have hlk := (imap_look resm_und resm_zero (env_mget (K.al (.cells #[.bool er, .int .i64 eq, .int .i64 es, .int .i64 ek, .int .i64 eb, .string ed, .int .i64 ee, .string ex] 55)) 1 rfl) es).1
      rw [show rsF L j es = (retE L j es).map rsV from rfl] at hlk
      go_upto_region 5 with fail
      replace K := K.al (.cells #[.bool er, .int .i64 eq, .int .i64 es, .int .i64 ek, .int .i64 eb, .string ed, .int .i64 ee, .string ex] 55)
      obtain ⟨g, hg⟩ : ∃ g, wr.heap.size = g := ⟨_, rfl⟩
      rw [hg] at K
      simp only [hg]
      generalize wr.alloc (.cells #[.bool er, .int .i64 eq, .int .i64 es, .int .i64 ek, .int .i64 eb, .string ed, .int .i64 ee, .string ex] 55) = w1 at *
      clear c0 c1 c2 c3 c4 c5 c6 c7 hg
      obtain ⟨c0, c1, c2, c3, c4, c5, c6, c7⟩ := ev_cells (K.get 0 rfl)
      cases hrt : retE L j es with
      | some y =>
        rw [hrt] at hlk
        simp only [Option.map_some, Option.getD_some, Option.isSome_some] at hlk
        replace HQ := HQ0.out (.inr (by rw [hrt]; rfl))
        have KB := K.al (.cells #[.int .i64 y.err, .string y.res] 53)
        replace K := KB.sub (T' := [imapT mb (rsF L j)]) [2] rfl (by simp) (by simp)
        rw [← HQ] at K
        clear HQ HQ0 HQ1 hrt
        go_upto_region 6 with fail
        clear hlk c0 c1 c2 c3 c4 c5 c6 c7
        obtain ⟨c0, c1, c2, c3, c4, c5, c6, c7⟩ := ev_cells (KB.get 1 rfl)
        cases er
        · go_wp2_with fail
          go_roundw
          case rel => exact ⟨j + 1, by go_num, by omega, K⟩
          case measure => simp [intOf]; omega
        · go_wp2_with fail
          go_roundw
          case rel => exact ⟨j + 1, by go_num, by omega, K⟩
          case measure => simp [intOf]; omega
      | none =>
        rw [hrt] at hlk
        simp only [Option.map_none, Option.getD_none, Option.isSome_none] at hlk
        cases er with
        | false =>
          replace HQ := HQ0.out (.inl rfl)
          have KB := K.al (.cells #[.int .i64 0, .string ⟨#[]⟩] 53)
          replace K := KB.sub (T' := [imapT mb (rsF L j)]) [2] rfl (by simp) (by simp)
          rw [← HQ] at K
          clear HQ HQ0 HQ1 hrt
          go_upto_region 6 with fail
          clear hlk c0 c1 c2 c3 c4 c5 c6 c7
          obtain ⟨c0, c1, c2, c3, c4, c5, c6, c7⟩ := ev_cells (KB.get 1 rfl)
          go_wp2_with fail
          go_roundw
          case rel => exact ⟨j + 1, by go_num, by omega, K⟩
          case measure => simp [intOf]; omega
        | true =>
          replace HQ := Lib.hid (HQ1.out rfl hrt)
          have KB := K.al (.cells #[.int .i64 0, .string ⟨#[]⟩] 53)
          obtain ⟨W', hup, KM, _⟩ := env_mput resm_und KB 2 rfl es (rsV ⟨true, eq, es, ek, eb, ed, ee, ex⟩)
          simp only [List.set] at KM
          simp only [rsV] at hup
          clear HQ0 HQ1 hrt
          go_upto_region 6 with fail
          clear hlk c0 c1 c2 c3 c4 c5 c6 c7
          obtain ⟨c0, c1, c2, c3, c4, c5, c6, c7⟩ := ev_cells (KB.get 1 rfl)
          go_wp2_with fail
          replace KM := KM.sub (T' := [imapT mb (putF (rsF L j) es (rsV ⟨true, eq, es, ek, eb, ed, ee, ex⟩))]) [2] rfl (by simp) (by simp)
          rw [← HQ.out] at KM
          go_roundw
          case rel => exact ⟨j + 1, by go_num, by omega, KM⟩
          case measure => simp [intOf]; omega
    · obtain rfl : j = n := by omega
      have hjI : ¬ (j : Int) < (j : Int) := by omega
      go_wp2_with fail
      go_ret
      subst hmb
      exact ⟨_, rfl, Nat.le_refl _, env_mget K 0 rfl, K.hb⟩
end Go.Proofs.YtnmhnjjehglcfaaGreat.Ents
namespace Go.Proofs.YtnmhnjjehglcfaaGreat.HisMath
/-- the list while its elements get their results, one after the other -/
def midL (L C : List Ev) (i : Nat) : List Ev := (C.take i).map (opOf L) ++ C.drop i
theorem mid_zero (L C : List Ev) : midL L C 0 = C := by simp [midL]
theorem mid_all (L C : List Ev) : midL L C C.length = C.map (opOf L) := by simp [midL]
theorem mid_at {L C : List Ev} {i : Nat} {e : Ev} (h : C[i]? = some e) : (midL L C i)[i]? = some e := by
  have hlt := (List.getElem?_eq_some_iff.1 h).1
  unfold midL
  rw [List.getElem?_append_right (by simp; omega), List.length_map, List.length_take, Nat.min_eq_left (by omega), Nat.sub_self, List.getElem?_drop, Nat.add_zero]
  exact h
theorem mid_set {L C : List Ev} {i : Nat} {e : Ev} (h : C[i]? = some e) : (midL L C i).set i (opOf L e) = midL L C (i + 1) := by
  have hlt := (List.getElem?_eq_some_iff.1 h).1
  unfold midL
  rw [take_snoc h, List.map_append, List.set_append_right _ _ (by simp; omega), List.length_map, List.length_take, Nat.min_eq_left (by omega), Nat.sub_self, List.drop_eq_getElem_cons hlt, List.set_cons_zero, List.append_assoc]
  rfl
theorem mid_same {L C : List Ev} {i : Nat} {e : Ev} (h : C[i]? = some e) (hs : opOf L e = e) : midL L C i = midL L C (i + 1) := by
  rw [← mid_set h, hs]
  have := mid_at (L := L) h
  apply List.ext_getElem?
  intro k
  by_cases hk : i = k
  · subst hk
    rw [this, List.getElem?_set_self (List.getElem?_eq_some_iff.1 this).1]
  · rw [List.getElem?_set_ne hk]
end Go.Proofs.YtnmhnjjehglcfaaGreat.HisMath
namespace Go.Proofs.YtnmhnjjehglcfaaGreat.Ents
open Go.RowKit Plan HisMath Rws Env LayMath CmdMath
set_option maxHeartbeats 8000000 in
set_option maxRecDepth 20000 in
theorem hisOpsO_any (F : Nat → Prop) (L : List Ev) (a : Option Addr) (n c : Nat) (w : World) (hl : VList w F a n c L) (hm : n ≤ 100000) :
    Calls Tryz.prog 77 #[.slice a n c] w (OVPost w (opsE L n)) := by
  have hlen := hl.length
  have HC := Lib.hid (fun W (h : Below w.heap.size w W) => hisCalls_any _ L a n c W (hl.same h) hm)
  have HR := Lib.hid (fun W (h : Below w.heap.size w W) => hisResults_any _ L a n c W (hl.same h))
  have hcm := calls_map L n
  have hcl := calls_len L n
  have HCI := Lib.hid (calls_inv L n)
  have HF : ∀ z, rsF L n z = (retE L L.length z).map rsV := fun z => by rw [hlen]; rfl
  generalize callsE L n = C at *
  generalize rsF L n = f at *
  have K := Env.start w
  unfold OVPost at HC
  unfold RMPost at HR
  unfold OVPost
  rw [← hcm]
  clear hl hcm
  go_enter Tryz.func77, Tryz.ntmps77
  go_upto_region 2 with (first
    | (go_at_call 100; ((with_reducible refine (HC.out _ K.hb).mono ?_); rintro r9 w1 ⟨v0, rfl, ⟨m, ho⟩, h9⟩; replace K := (K.got h9 ho).1; clear h9 ho))
    | (go_at_call 101; ((with_reducible refine (HR.out _ K.hb).mono ?_); rintro r9 w2 ⟨mb, rfl, hmb, hmp, h9⟩; replace K := K.cons h9 (imap_holds (B := w.heap.size) hmp (Nat.le_trans K.hb.size hmb)) (fun g hg => by obtain rfl : g = mb := hg; exact hmb); clear h9 hmb hmp)))
  clear HC HR
  have hlC : C.length = m := owns_len vrOk (K.own 1 rfl)
  obtain ⟨ca, cc, rfl, _⟩ := K.any vrOk 1 rfl
  rw [← mid_zero L C] at K
  go_wp2_with fail
  go_loopw [15] (fun x wr => ∃ (i : Nat), x = .int .i64 (i : Int) ∧ i ≤ m ∧ Env w wr [imapT mb f, Env.lst VR (.slice ca m cc) m (midL L C i)]) (fun x _ => m - (intOf x).toNat)
  case atStart => exact ⟨0, rfl, by omega, K⟩
  case round =>
    clear K
    obtain ⟨i, rfl, hi, K⟩ := hrel
    by_cases hlt : i < m
    · have hiI : (i : Int) < (m : Int) := by omega
      obtain ⟨g, c9, e9⟩ := K.val vrOk 1 rfl (by omega)
      obtain ⟨rfl, -, rfl⟩ := Value.slice.inj e9
      clear e9
      obtain ⟨e, he⟩ : ∃ e, C[i]? = some e := ⟨_, List.getElem?_eq_getElem (by omega)⟩
      have her : e.ret = false := HCI.out e (List.mem_of_getElem? he)
      have hme := mid_at (L := L) he
      have HSET := Lib.hid (mid_set (L := L) he)
      have HSAME := Lib.hid (mid_same (L := L) he)
      have HOP := op_found (L := L) e
      have hfe := HF e.serial
      have hic : i ≤ cc := by have h9 := (K.list vrOk 1 rfl).cap; omega
      have hcap := (K.list vrOk 1 rfl).cap
      unfold maxLen at hcap
      obtain ⟨er, eq, es, ek, eb, ed, ee, ex⟩ := e
      simp only at her
      subst her
      have z0 := (K.ownF vrOk 1 rfl (k := i) (f := 0) hme (u := .bool false) rfl).1
      have z1 := (K.ownF vrOk 1 rfl (k := i) (f := 1) hme (u := .int .i64 eq) rfl).1
      have z2 := (K.ownF vrOk 1 rfl (k := i) (f := 2) hme (u := .int .i64 es) rfl).1
      have z3 := (K.ownF vrOk 1 rfl (k := i) (f := 3) hme (u := .int .i64 ek) rfl).1
      have z4 := (K.ownF vrOk 1 rfl (k := i) (f := 4) hme (u := .int .i64 eb) rfl).1
      have z5 := (K.ownF vrOk 1 rfl (k := i) (f := 5) hme (u := .string ed) rfl).1
      have z6 := (K.ownF vrOk 1 rfl (k := i) (f := 6) hme (u := .int .i64 ee) rfl).1
      have z7 := (K.ownF vrOk 1 rfl (k := i) (f := 7) hme (u := .string ex) rfl).1
      simp only [show VR.sz = 8 from rfl, Nat.add_zero] at z0 z1 z2 z3 z4 z5 z6 z7
      clear he
      have hlk := (imap_look resm_und resm_zero (env_mget (K.al (.cells #[.bool false, .int .i64 eq, .int .i64 es, .int .i64 ek, .int .i64 eb, .string ed, .int .i64 ee, .string ex] 55)) 1 rfl) es).1
      simp only at HOP hfe
      rw [hfe] at hlk
      go_upto_region 5 with fail
      replace K := K.al (.cells #[.bool false, .int .i64 eq, .int .i64 es, .int .i64 ek, .int .i64 eb, .string ed, .int .i64 ee, .string ex] 55)
      obtain ⟨ge, hg⟩ : ∃ ge, wr.heap.size = ge := ⟨_, rfl⟩
      rw [hg] at K
      simp only [hg]
      generalize wr.alloc (.cells #[.bool false, .int .i64 eq, .int .i64 es, .int .i64 ek, .int .i64 eb, .string ed, .int .i64 ee, .string ex] 55) = w3 at *
      clear z0 z1 z2 z3 z4 z5 z6 z7 hg
      obtain ⟨c0, c1, c2, c3, c4, c5, c6, c7⟩ := ev_cells (K.get 0 rfl)
      cases hrt : retE L L.length es with
      | none =>
        rw [hrt] at hlk HOP
        simp only [Option.map_none, Option.getD_none, Option.isSome_none] at hlk
        simp only at HOP
        have HS := HSAME.out HOP
        replace K := K.sub (T' := [imapT mb f, Env.lst VR (.slice (some ⟨g, 0, none⟩) m cc) m (midL L C i)]) [1, 2] rfl (by simp) (by simp)
        rw [HS] at K
        clear HS HSAME HSET hrt HOP hfe hme
        go_wp2_with fail
        replace K := K.al' (.cells #[.int .i64 0, .string ⟨#[]⟩] 53)
        go_roundw
        case rel => exact ⟨i + 1, by go_num, by omega, K⟩
        case measure => simp [intOf]; omega
      | some y =>
        rw [hrt] at hlk HOP
        simp only [Option.map_some, Option.getD_some, Option.isSome_some] at hlk
        simp only at HOP
        obtain ⟨yr, yq, ys, yk, yb, yd, ye, yx⟩ := y
        simp only [rsV] at hlk HOP
        clear hrt HSAME hfe
        rw [HOP] at HSET
        clear HOP
        go_upto_region 7 with fail
        replace K := K.al (.cells #[.int .i64 ye, .string yx] 53)
        clear hlk c0 c1 c2 c3 c4 c5 c6 c7
        obtain ⟨gr, hg⟩ : ∃ gr, w3.heap.size = gr := ⟨_, rfl⟩
        rw [hg] at K
        simp only [hg]
        generalize w3.alloc (.cells #[.int .i64 ye, .string yx] 53) = w4 at *
        clear hg
        generalize hM : midL L C i = M at *
        refine Plan.start (fun W => W.heap[gr]? = some (.cells #[.int .i64 ye, .string yx] 53 (0, 0))) [(0, true), (1, true), (2, true), (3, true), (4, true), (5, true), (6, true), (7, false), (8, true), (9, true), (10, false)] (by kernel_rfl) (by kernel_rfl) (by kernel_rfl) (by kernel_rfl) (K.drew.get 0 rfl) ?_
        simp only [List.map_cons, List.map_nil, List.getElem?_toArray, List.getElem?_cons_zero, List.getElem?_cons_succ]
        replace K := K.drew
        repeat (first | (refine Plan.take ?_ (by rfl) ?_ ?_; rotate_left; (· rintro w9 u0; go_simp; (try rw [if_neg (by omega)]); all_goals (with_reducible rfl)); simp only [Act.put, List.setIfInBounds_toArray, List.set_cons_zero, List.set_cons_succ]) | (refine Plan.pass (by rfl) ?_; simp only [Act.put, List.setIfInBounds_toArray, List.set_cons_zero, List.set_cons_succ]))
        refine Plan.take_load 53 (.tmp 7) gr _ (by rfl) rfl (by rfl) (fun w9 h9 => h9) Tryz.underlying53 rfl hs_info2 ?_
        simp only [Act.put, List.setIfInBounds_toArray, List.set_cons_zero, List.set_cons_succ]
        repeat (first | (refine Plan.take ?_ (by rfl) ?_ ?_; rotate_left; (· rintro w9 u0; go_simp; (try rw [if_neg (by omega)]); all_goals (with_reducible rfl)); simp only [Act.put, List.setIfInBounds_toArray, List.set_cons_zero, List.set_cons_succ]) | (refine Plan.pass (by rfl) ?_; simp only [Act.put, List.setIfInBounds_toArray, List.set_cons_zero, List.set_cons_succ]))
        refine Plan.carry (by rfl) (K.storeF vrOk 3 rfl 4 (.tmp 34) (.const (.bool true)) rfl (f := 0) ⟨true, eq, es, ek, eb, ed, ee, ex⟩ hme (by decide) (u := .bool true) rfl (i * 8) rfl rfl rfl bool_info1 rfl rfl ?_)
        intro w5 K9 _
        simp only [List.set] at K9
        refine ⟨K9.get 0 rfl, ?_⟩
        clear K
        simp only [Act.put]
        repeat (first | (refine Plan.take ?_ (by rfl) ?_ ?_; rotate_left; (· rintro w9 u0; go_simp; (try rw [if_neg (by omega)]); all_goals (with_reducible rfl)); simp only [Act.put, List.setIfInBounds_toArray, List.set_cons_zero, List.set_cons_succ]) | (refine Plan.pass (by rfl) ?_; simp only [Act.put, List.setIfInBounds_toArray, List.set_cons_zero, List.set_cons_succ]))
        have hme2 : (M.set i (⟨true, eq, es, ek, eb, ed, ee, ex⟩ : Ev))[i]? = some ⟨true, eq, es, ek, eb, ed, ee, ex⟩ := List.getElem?_set_self (List.getElem?_eq_some_iff.1 hme).1
        refine Plan.carry (by rfl) (K9.storeF2 vrOk 3 rfl 53 (.tmp 36) (.tmp 32) rfl (f := 6) ⟨true, eq, es, ek, eb, ed, ye, ex⟩ ⟨true, eq, es, ek, eb, ed, ye, yx⟩ hme2 (by decide) (u0 := .int .i64 ye) (u1 := .string yx) rfl rfl (i * 8 + 6) rfl rfl rfl hs_info2 rfl rfl ?_)
        intro w6 K _
        simp only [List.set, List.set_set] at K
        refine ⟨K.get 0 rfl, ?_⟩
        clear K9 hme2
        simp only [Act.put]
        refine Plan.ends ?_
        rw [HSET.out] at K
        replace K := K.sub (T' := [imapT mb f, Env.lst VR (.slice (some ⟨g, 0, none⟩) m cc) m (midL L C (i + 1))]) [2, 3] rfl (by simp) (by simp)
        clear hM HSET hme
        go_wp2_with fail
        go_roundw
        case rel => exact ⟨i + 1, by go_num, by omega, K⟩
        case measure => simp [intOf]; omega
    · obtain rfl : i = m := by omega
      have hiI : ¬ (i : Int) < (i : Int) := by omega
      rw [← hlC] at K
      rw [mid_all, hlC] at K
      go_wp2_with fail
      go_ret
      exact ⟨_, rfl, ⟨_, K.own 1 rfl⟩, K.hb⟩
theorem hisOps_any (F : Nat → Prop) (L : List Ev) (a : Option Addr) (n c : Nat) (w : World) (hl : VList w F a n c L) (hm : n ≤ 100000) :
    Calls Tryz.prog 77 #[.slice a n c] w (VPost w (opsE L n)) :=
  (hisOpsO_any F L a n c w hl hm).mono fun _ _ h => own_vpost h
end Go.Proofs.YtnmhnjjehglcfaaGreat.Ents

/- The walks of the program's isRight and Check of histories: all that the laws ask of the program. -/
namespace Go.Proofs.YtnmhnjjehglcfaaGreat.Ents
open Go.RowKit Plan HisMath Rws Env LayMath CmdMath
theorem evm_und : Tryz.prog.underlying 141 = some (.map 3 55) := by kernel_rfl
abbrev zeroEv : Value := .agg #[.bool false, .int .i64 0, .int .i64 0, .int .i64 0, .int .i64 0, .string ⟨#[]⟩, .int .i64 0, .string ⟨#[]⟩]
theorem evm_zero (W : World) : (zeroValue 55).run Tryz.prog W = .ok zeroEv W := by kernel_rfl
def lastF (L : List Ev) (j : Nat) : Int → Option Value := fun z => (lastE L j z).map evV
theorem lastF_start (L : List Ev) : lastF L 0 = fun _ => none := by funext z; simp [lastF, lastE]
theorem lastF_next {L : List Ev} {j : Nat} {e : Ev} (he : L[j]? = some e) : lastF L (j + 1) = putF (lastF L j) e.serial (evV e) := by
  funext z
  unfold lastF putF
  rw [last_next he]
  by_cases hz : e.serial = z
  · subst hz; simp
  · have hz2 : ¬ z = e.serial := fun h => hz h.symm
    simp [hz, hz2]
set_option maxHeartbeats 8000000 in
set_option maxRecDepth 20000 in
theorem hisRight_any (F : Nat → Prop) (L : List Ev) (a : Option Addr) (n c : Nat) (w : World) (hl : VList w F a n c L) :
    Calls Tryz.prog 69 #[.slice a n c] w fun r w' => r = .returned (.bool (rightsB L)) ∧ Below w.heap.size w w' := by
  have hlen := hl.length
  have hcp := hl.cap
  unfold maxLen at hcp
  have HAT := Lib.hid (fun W (h : Below w.heap.size w W) i (hi : i < n) => ev_at (hl.same h) i hi)
  have hmm := fun W => (show (Instr.makeMap 141 none).run Tryz.prog W = .ok (.map (some W.heap.size)) (W.alloc (.map #[] 0)) from rfl)
  have K := env_mnew (Env.start w)
  rw [← lastF_start L] at K
  have HR0 := Lib.hid (right_start L)
  have HALL := Lib.hid (fun (h : Right (L.take n)) => right_all h hlen.symm)
  have HLESS := Lib.hid (fun j x (h1 : L[j]? = some x) (h2 : rightB (L.take j) x = false) => right_less h1 h2)
  generalize rightsB L = V at *
  clear hl hlen
  go_enter Tryz.func69, Tryz.ntmps69
  go_wp2_with fail
  clear hmm
  generalize w.alloc (.map #[] 0) = w0 at *
  generalize hmb : w.heap.size = mb at K ⊢
  have K := (hmb ▸ K : Env w w0 [imapT w.heap.size (lastF L 0)])
  subst hmb
  go_loopw [11] (fun x wr => ∃ (j : Nat), x = .int .i64 (j : Int) ∧ j ≤ n ∧ RowKit.Hid (Right (L.take j)) ∧ Env w wr [imapT w.heap.size (lastF L j)]) (fun x _ => n - (intOf x).toNat)
  case atStart => exact ⟨0, rfl, by omega, HR0, K⟩
  case round =>
    clear K HR0
    obtain ⟨j, rfl, hj, HR, K⟩ := hrel
    by_cases hlt : j < n
    · obtain ⟨x, e, rfl, he, c0, c1, c2, c3, c4, c5, c6, c7⟩ := HAT.out wr K.hb j hlt
      have hjI : (j : Int) < (n : Int) := by omega
      have HP := Lib.hid (fun W => hisPossible_any e W)
      have HCL := Lib.hid (fun W => hisCall_any e W)
      have hnext := lastF_next he
      have HB := Lib.hid (HLESS.out j e he)
      have HG := Lib.hid (fun h => right_more HR.out he h)
      have hst := step_right HR.out he
      generalize rightB (L.take j) e = rb at *
      have hla : lastF L j e.serial = (lastE L j e.serial).map evV := rfl
      simp only [stepB] at hst
      generalize possB e = pb at *
      obtain ⟨er, eq, es, ek, eb, ed, ee, ex⟩ := e
      simp only at c0 c1 c2 c3 c4 c5 c6 c7 hla hst hnext
      clear he HR
      have hlk := (imap_look evm_und evm_zero (env_mget (K.al (.cells #[.bool er, .int .i64 eq, .int .i64 es, .int .i64 ek, .int .i64 eb, .string ed, .int .i64 ee, .string ex] 55)) 1 rfl) es).1
      rw [hla] at hlk
      clear hla
      go_upto_region 5 with fail
      replace K := K.al (.cells #[.bool er, .int .i64 eq, .int .i64 es, .int .i64 ek, .int .i64 eb, .string ed, .int .i64 ee, .string ex] 55)
      obtain ⟨g, hg⟩ : ∃ g, wr.heap.size = g := ⟨_, rfl⟩
      rw [hg] at K
      simp only [hg]
      generalize wr.alloc (.cells #[.bool er, .int .i64 eq, .int .i64 es, .int .i64 ek, .int .i64 eb, .string ed, .int .i64 ee, .string ex] 55) = w1 at *
      clear c0 c1 c2 c3 c4 c5 c6 c7 hg
      obtain ⟨c0, c1, c2, c3, c4, c5, c6, c7⟩ := ev_cells (K.get 0 rfl)
      cases hle : lastE L j es with
      | none =>
        rw [hle] at hlk hst
        simp only [Option.map_none, Option.getD_none, Option.isSome_none] at hlk
        go_upto_region 6 with fail
        clear hlk c0 c1 c2 c3 c4 c5 c6 c7 hle
        replace K := K.al (.cells #[.bool false, .int .i64 0, .int .i64 0, .int .i64 0, .int .i64 0, .string ⟨#[]⟩, .int .i64 0, .string ⟨#[]⟩] 55)
        generalize w1.alloc (.cells #[.bool false, .int .i64 0, .int .i64 0, .int .i64 0, .int .i64 0, .string ⟨#[]⟩, .int .i64 0, .string ⟨#[]⟩] 55) = w2 at *
        generalize w1.heap.size = g2 at *
        obtain ⟨c0, c1, c2, c3, c4, c5, c6, c7⟩ := ev_cells (K.get 1 rfl)
        cases pb with
        | false =>
          have HBAD := Lib.hid (HB.out (by rw [← hst]; rfl))
          clear hst HB HG hnext HCL
          go_wp2_with (first
            | (go_at_call 96; ((with_reducible refine (HP.out _).mono ?_); rintro r9 w5 ⟨rfl, h9⟩; replace K := K.on h9; clear h9 c0 c1 c2 c3 c4 c5 c6 c7; obtain ⟨c0, c1, c2, c3, c4, c5, c6, c7⟩ := ev_cells (K.get 1 rfl)))
            | ((with_reducible refine Plan.load_lit 55 (.tmp 5) g ?_ (K.get 1 rfl) Tryz.underlying55 ?_ ?_ ?_); (· rfl); (· rfl); (· exact ev_info); simp only [Act.put, List.setIfInBounds_toArray, List.set_cons_zero, List.set_cons_succ]))
          go_ret
          exact ⟨ret_b HBAD.out.symm, K.hb⟩
        | true =>
          cases er with
          | true =>
            have HBAD := Lib.hid (HB.out (by rw [← hst]; rfl))
            clear hst HB HG hnext HCL
            go_wp2_with (first
              | (go_at_call 96; ((with_reducible refine (HP.out _).mono ?_); rintro r9 w5 ⟨rfl, h9⟩; replace K := K.on h9; clear h9 c0 c1 c2 c3 c4 c5 c6 c7; obtain ⟨c0, c1, c2, c3, c4, c5, c6, c7⟩ := ev_cells (K.get 1 rfl)))
              | ((with_reducible refine Plan.load_lit 55 (.tmp 5) g ?_ (K.get 1 rfl) Tryz.underlying55 ?_ ?_ ?_); (· rfl); (· rfl); (· exact ev_info); simp only [Act.put, List.setIfInBounds_toArray, List.set_cons_zero, List.set_cons_succ]))
            go_ret
            exact ⟨ret_b HBAD.out.symm, K.hb⟩
          | false =>
            have HGO := Lib.hid (HG.out (by rw [← hst]; rfl))
            clear hst HB HG HCL
            go_upto_region 8 with (first
              | (go_at_call 96; ((with_reducible refine (HP.out _).mono ?_); rintro r9 w5 ⟨rfl, h9⟩; replace K := K.on h9; clear h9 c0 c1 c2 c3 c4 c5 c6 c7; obtain ⟨c0, c1, c2, c3, c4, c5, c6, c7⟩ := ev_cells (K.get 1 rfl)))
              | ((with_reducible refine Plan.load_lit 55 (.tmp 5) g ?_ (K.get 1 rfl) Tryz.underlying55 ?_ ?_ ?_); (· rfl); (· rfl); (· exact ev_info); simp only [Act.put, List.setIfInBounds_toArray, List.set_cons_zero, List.set_cons_succ]))
            refine Plan.start (fun W => W.heap[g]? = some (.cells #[.bool false, .int .i64 eq, .int .i64 es, .int .i64 ek, .int .i64 eb, .string ed, .int .i64 ee, .string ex] 55 (0, 0)) ∧ W.cell? ⟨g, 0, none⟩ = some (.bool false)) [(0, true), (1, true), (2, true), (3, true), (4, true), (5, false), (6, true), (7, true)] (by kernel_rfl) (by kernel_rfl) (by kernel_rfl) (by kernel_rfl) ⟨K.drew.get 1 rfl, cell_of_row _ _ 0 _ _ _ (K.drew.get 1 rfl)⟩ ?_
            simp only [List.map_cons, List.map_nil, List.getElem?_toArray, List.getElem?_cons_zero, List.getElem?_cons_succ]
            replace K := K.drew
            repeat (first | (refine Plan.take ?_ (by rfl) ?_ ?_; rotate_left; (· rintro w9 ⟨u0, u1⟩; go_simp; (try rw [if_neg (by omega)]); all_goals (with_reducible rfl)); simp only [Act.put, List.setIfInBounds_toArray, List.set_cons_zero, List.set_cons_succ]) | (refine Plan.pass (by rfl) ?_; simp only [Act.put, List.setIfInBounds_toArray, List.set_cons_zero, List.set_cons_succ]))
            refine Plan.pass' (by rfl) ⟨K.get 1 rfl, cell_of_row _ _ 0 _ _ _ (K.get 1 rfl)⟩ ?_
            simp only [Act.put, List.setIfInBounds_toArray, List.set_cons_zero, List.set_cons_succ]
            repeat (first | (refine Plan.take ?_ (by rfl) ?_ ?_; rotate_left; (· rintro w9 ⟨u0, u1⟩; go_simp; (try rw [if_neg (by omega)]); all_goals (with_reducible rfl)); simp only [Act.put, List.setIfInBounds_toArray, List.set_cons_zero, List.set_cons_succ]) | (refine Plan.pass (by rfl) ?_; simp only [Act.put, List.setIfInBounds_toArray, List.set_cons_zero, List.set_cons_succ]))
            refine Plan.ends ?_
            clear c0 c1 c2 c3 c4 c5 c6 c7
            obtain ⟨c0, c1, c2, c3, c4, c5, c6, c7⟩ := ev_cells (K.get 1 rfl)
            obtain ⟨W', hup, KM, _⟩ := env_mput evm_und K 2 rfl es (evV ⟨false, eq, es, ek, eb, ed, ee, ex⟩)
            simp only [List.set] at KM
            simp only [evV] at hup
            rw [← hnext] at KM
            replace KM := KM.sub (T' := [imapT w.heap.size (lastF L (j + 1))]) [2] rfl (by simp) (by simp)
            clear hnext
            go_wp2_with (first
              | ((with_reducible refine Plan.load_lit 55 (.tmp 5) g ?_ (K.get 1 rfl) Tryz.underlying55 ?_ ?_ ?_); (· rfl); (· rfl); (· exact ev_info); simp only [Act.put, List.setIfInBounds_toArray, List.set_cons_zero, List.set_cons_succ]))
            go_roundw
            case rel => exact ⟨j + 1, by go_num, by omega, HGO, KM⟩
            case measure => simp [intOf]; omega
      | some y =>
        rw [hle] at hlk hst
        simp only [Option.map_some, Option.getD_some, Option.isSome_some] at hlk
        have HE := Lib.hid (fun W => ev_neq_run y (callOf ⟨er, eq, es, ek, eb, ed, ee, ex⟩) W)
        obtain ⟨yr, yq, ys, yk, yb, yd, ye, yx⟩ := y
        go_upto_region 6 with fail
        clear hlk c0 c1 c2 c3 c4 c5 c6 c7 hle
        replace K := K.al (.cells #[.bool yr, .int .i64 yq, .int .i64 ys, .int .i64 yk, .int .i64 yb, .string yd, .int .i64 ye, .string yx] 55)
        generalize w1.alloc (.cells #[.bool yr, .int .i64 yq, .int .i64 ys, .int .i64 yk, .int .i64 yb, .string yd, .int .i64 ye, .string yx] 55) = w2 at *
        generalize w1.heap.size = g2 at *
        obtain ⟨c0, c1, c2, c3, c4, c5, c6, c7⟩ := ev_cells (K.get 1 rfl)
        cases pb with
        | false =>
          have HBAD := Lib.hid (HB.out (by rw [← hst]; rfl))
          clear hst HB HG hnext HCL HE
          go_wp2_with (first
            | (go_at_call 96; ((with_reducible refine (HP.out _).mono ?_); rintro r9 w5 ⟨rfl, h9⟩; replace K := K.on h9; clear h9 c0 c1 c2 c3 c4 c5 c6 c7; obtain ⟨c0, c1, c2, c3, c4, c5, c6, c7⟩ := ev_cells (K.get 1 rfl)))
            | ((with_reducible refine Plan.load_lit 55 (.tmp 5) g ?_ (K.get 1 rfl) Tryz.underlying55 ?_ ?_ ?_); (· rfl); (· rfl); (· exact ev_info); simp only [Act.put, List.setIfInBounds_toArray, List.set_cons_zero, List.set_cons_succ]))
          go_ret
          exact ⟨ret_b HBAD.out.symm, K.hb⟩
        | true =>
          cases er with
          | false =>
            have HBAD := Lib.hid (HB.out (by rw [← hst]; rfl))
            clear hst HB HG hnext HCL HE
            go_wp2_with (first
              | (go_at_call 96; ((with_reducible refine (HP.out _).mono ?_); rintro r9 w5 ⟨rfl, h9⟩; replace K := K.on h9; clear h9 c0 c1 c2 c3 c4 c5 c6 c7; obtain ⟨c0, c1, c2, c3, c4, c5, c6, c7⟩ := ev_cells (K.get 1 rfl)))
              | ((with_reducible refine Plan.load_lit 55 (.tmp 5) g ?_ (K.get 1 rfl) Tryz.underlying55 ?_ ?_ ?_); (· rfl); (· rfl); (· exact ev_info); simp only [Act.put, List.setIfInBounds_toArray, List.set_cons_zero, List.set_cons_succ]))
            go_ret
            exact ⟨ret_b HBAD.out.symm, K.hb⟩
          | true =>
            go_upto_region 8 with (first
              | (go_at_call 96; ((with_reducible refine (HP.out _).mono ?_); rintro r9 w5 ⟨rfl, h9⟩; replace K := K.on h9; clear h9 c0 c1 c2 c3 c4 c5 c6 c7; obtain ⟨c0, c1, c2, c3, c4, c5, c6, c7⟩ := ev_cells (K.get 1 rfl)))
              | ((with_reducible refine Plan.load_lit 55 (.tmp 5) g ?_ (K.get 1 rfl) Tryz.underlying55 ?_ ?_ ?_); (· rfl); (· rfl); (· exact ev_info); simp only [Act.put, List.setIfInBounds_toArray, List.set_cons_zero, List.set_cons_succ]))
            obtain ⟨D, hD⟩ : ∃ D, (!decide ((⟨yr, yq, ys, yk, yb, yd, ye, yx⟩ : Ev) = callOf ⟨true, eq, es, ek, eb, ed, ee, ex⟩)) = D := ⟨_, rfl⟩
            have hE := fun W => HE.out W
            simp only [hD] at hE
            simp only [evV, callOf] at hE HCL
            have hst2 : (!D) = rb := by rw [← hst, ← hD]; simp
            clear hst hD HE
            refine Plan.start (fun W => W.heap[g]? = some (.cells #[.bool true, .int .i64 eq, .int .i64 es, .int .i64 ek, .int .i64 eb, .string ed, .int .i64 ee, .string ex] 55 (0, 0)) ∧ W.heap[g2]? = some (.cells #[.bool yr, .int .i64 yq, .int .i64 ys, .int .i64 yk, .int .i64 yb, .string yd, .int .i64 ye, .string yx] 55 (0, 0)) ∧ W.cell? ⟨g, 0, none⟩ = some (.bool true)) [(0, true), (1, true), (2, true), (3, true), (4, true), (5, false), (6, true), (7, true)] (by kernel_rfl) (by kernel_rfl) (by kernel_rfl) (by kernel_rfl) ⟨K.drew.get 1 rfl, K.drew.get 0 rfl, cell_of_row _ _ 0 _ _ _ (K.drew.get 1 rfl)⟩ ?_
            simp only [List.map_cons, List.map_nil, List.getElem?_toArray, List.getElem?_cons_zero, List.getElem?_cons_succ]
            replace K := K.drew
            repeat (first | (refine Plan.take ?_ (by rfl) ?_ ?_; rotate_left; (· rintro w9 ⟨u0, u1, u2⟩; go_simp; (try rw [if_neg (by omega)]); all_goals (with_reducible rfl)); simp only [Act.put, List.setIfInBounds_toArray, List.set_cons_zero, List.set_cons_succ]) | (refine Plan.pass (by rfl) ?_; simp only [Act.put, List.setIfInBounds_toArray, List.set_cons_zero, List.set_cons_succ]))
            refine Plan.take_load 55 (.tmp 6) g2 _ (by rfl) rfl (by rfl) (fun w9 h9 => h9.2.1) Tryz.underlying55 rfl ev_info ?_
            simp only [Act.put, List.setIfInBounds_toArray, List.set_cons_zero, List.set_cons_succ]
            refine Plan.take_load 55 (.tmp 5) g _ (by rfl) rfl (by rfl) (fun w9 h9 => h9.1) Tryz.underlying55 rfl ev_info ?_
            simp only [Act.put, List.setIfInBounds_toArray, List.set_cons_zero, List.set_cons_succ]
            refine Plan.call (by rfl) 97 _ ?_ (HCL.out _) ?_
            · go_simp
            rintro r9 w6 ⟨rfl, h9⟩
            replace K := K.on h9
            clear h9
            refine ⟨_, rfl, ⟨K.get 1 rfl, K.get 0 rfl, cell_of_row _ _ 0 _ _ _ (K.get 1 rfl)⟩, ?_⟩
            simp only [Act.put, List.setIfInBounds_toArray, List.set_cons_zero, List.set_cons_succ]
            repeat (first | (refine Plan.take ?_ (by rfl) ?_ ?_; rotate_left; (· rintro w9 ⟨u0, u1, u2⟩; go_simp; (try rw [if_neg (by omega)]); all_goals (with_reducible rfl)); simp only [Act.put, List.setIfInBounds_toArray, List.set_cons_zero, List.set_cons_succ]) | (refine Plan.pass (by rfl) ?_; simp only [Act.put, List.setIfInBounds_toArray, List.set_cons_zero, List.set_cons_succ]))
            cases D with
            | false =>
              have HGO := Lib.hid (HG.out hst2.symm)
              clear hst2 HB HG HCL hE
              refine Plan.ends ?_
              clear c0 c1 c2 c3 c4 c5 c6 c7
              obtain ⟨c0, c1, c2, c3, c4, c5, c6, c7⟩ := ev_cells (K.get 1 rfl)
              obtain ⟨W', hup, KM, _⟩ := env_mput evm_und K 2 rfl es (evV ⟨true, eq, es, ek, eb, ed, ee, ex⟩)
              simp only [List.set] at KM
              simp only [evV] at hup
              rw [← hnext] at KM
              replace KM := KM.sub (T' := [imapT w.heap.size (lastF L (j + 1))]) [2] rfl (by simp) (by simp)
              clear hnext
              go_wp2_with (first
                | ((with_reducible refine Plan.load_lit 55 (.tmp 5) g ?_ (K.get 1 rfl) Tryz.underlying55 ?_ ?_ ?_); (· rfl); (· rfl); (· exact ev_info); simp only [Act.put, List.setIfInBounds_toArray, List.set_cons_zero, List.set_cons_succ]))
              go_roundw
              case rel => exact ⟨j + 1, by go_num, by omega, HGO, KM⟩
              case measure => simp [intOf]; omega
            | true =>
              have HBAD := Lib.hid (HB.out hst2.symm)
              refine Plan.ends ?_
              clear hst2 HB HG hnext HCL hE
              go_wp2_with fail
              go_ret
              exact ⟨ret_b HBAD.out.symm, K.hb⟩
    · obtain rfl : j = n := by omega
      have hjI : ¬ (j : Int) < (j : Int) := by omega
      have HY := Lib.hid (HALL.out HR.out)
      go_wp2_with fail
      go_ret
      exact ⟨ret_b HY.out.symm, K.hb⟩
set_option maxHeartbeats 8000000 in
set_option maxRecDepth 20000 in
theorem hisCheck_any (F : Nat → Prop) (L : List Ev) (b : Int) (a : Option Addr) (n c : Nat) (w : World) (hl : VList w F a n c L) :
    Calls Tryz.prog 36 #[.int .i64 b, .slice a n c] w fun r w' => r = .returned (.int .i64 (checkE b L)) ∧ Below w.heap.size w w' := by
  have hlen := hl.length
  have hb := Below.refl w.heap.size w
  have hcp := hl.cap
  unfold maxLen at hcp
  have HR := Lib.hid (fun W (h : Below w.heap.size w W) => hisRight_any _ L a n c W (hl.same h))
  clear hl
  unfold checkE
  rw [hlen]
  generalize rightsB L = V at *
  clear hlen
  have hc : b < 1 ∨ (1 ≤ b ∧ 128 < b) ∨ (1 ≤ b ∧ b ≤ 128) := by omega
  rcases hc with h1 | ⟨h1, h2⟩ | ⟨h1, h2⟩
  · rw [if_pos (by omega)]
    clear HR
    go_enter Tryz.func36, Tryz.ntmps36
    go_wp2_with fail
    go_ret
    exact ⟨rfl, hb⟩
  · rw [if_pos (by omega)]
    clear HR
    go_enter Tryz.func36, Tryz.ntmps36
    go_wp2_with fail
    go_ret
    exact ⟨rfl, hb⟩
  · rw [if_neg (by omega)]
    by_cases h3 : 400 < n
    · rw [if_pos h3]
      have h3I : (400 : Int) < (n : Int) := by omega
      clear HR
      go_enter Tryz.func36, Tryz.ntmps36
      go_wp2_with fail
      go_ret
      exact ⟨rfl, hb⟩
    · rw [if_neg h3]
      have h3I : ¬ (400 : Int) < (n : Int) := by omega
      cases V
      · go_enter Tryz.func36, Tryz.ntmps36
        go_wp2_with (first
          | (go_at_call 69; ((with_reducible refine (HR.out _ hb).mono ?_); rintro r9 w5 ⟨rfl, h9⟩; replace hb := hb.trans (h9.mono hb.size); clear h9)))
        go_ret
        exact ⟨rfl, hb⟩
      · go_enter Tryz.func36, Tryz.ntmps36
        go_wp2_with (first
          | (go_at_call 69; ((with_reducible refine (HR.out _ hb).mono ?_); rintro r9 w5 ⟨rfl, h9⟩; replace hb := hb.trans (h9.mono hb.size); clear h9)))
        go_ret
        exact ⟨rfl, hb⟩
end Go.Proofs.YtnmhnjjehglcfaaGreat.Ents

/- Strings that are sorted and compacted ascend, and are the same. Plain mathematics. -/
namespace Go.Proofs.YtnmhnjjehglcfaaGreat.SrchM
open LinMath
theorem bl_lt : ∀ {x y : List UInt8}, Op.bytesLess x y = true ↔ x < y
  | [], [] => by simp [Op.bytesLess]
  | [], b :: y => by simp [Op.bytesLess]
  | a :: x, [] => by simp [Op.bytesLess]
  | a :: x, b :: y => by
    have ih := bl_lt (x := x) (y := y)
    rw [List.cons_lt_cons_iff, ← ih]
    simp [Op.bytesLess]
theorem bl_le {x y : List UInt8} : x ≤ y ↔ Op.bytesLess y x = false := by
  show ¬ (y < x) ↔ _
  rw [← bl_lt]
  simp
theorem le_lt {x y z : List UInt8} (h1 : Op.bytesLess y x = false) (h2 : Op.bytesLess y z = true) : Op.bytesLess x z = true := by
  cases h3 : Op.bytesLess x z with
  | true => rfl
  | false =>
    cases h4 : Op.bytesLess z x with
    | true => rw [bl_trans h2 h4] at h1; cases h1
    | false =>
      obtain rfl := bl_total h3 h4
      rw [h2] at h1; cases h1
theorem le_ne {x y : List UInt8} (h1 : Op.bytesLess y x = false) (h2 : x ≠ y) : Op.bytesLess x y = true := by
  cases h3 : Op.bytesLess x y with
  | true => rfl
  | false => exact absurd (bl_total h3 h1) h2
theorem compact_asc {zs : List (List UInt8)} (h : ∀ i j (hi : i < zs.length) (hj : j < zs.length), i < j → Op.bytesLess zs[j] zs[i] = false) : (Lib.compact zs).Pairwise (fun x y => Op.bytesLess x y = true) ∧ ∀ x, x ∈ Lib.compact zs ↔ x ∈ zs := by
  have hget : ∀ i (hi : i < zs.length), zs.toArray[i]! = zs[i] := fun i hi => by simp [hi]
  unfold Lib.compact Lib.compactUpTo
  constructor
  · rw [List.pairwise_map]
    have hr : ((List.range zs.length).filter (Lib.keeps zs.toArray)).Pairwise (· < ·) := List.pairwise_lt_range.sublist List.filter_sublist
    refine List.Pairwise.imp_of_mem (fun {i j} hi hj hij => ?_) hr
    obtain ⟨hi1, _⟩ := List.mem_filter.1 hi
    obtain ⟨hj1, hj2⟩ := List.mem_filter.1 hj
    have hi3 := List.mem_range.1 hi1
    have hj3 := List.mem_range.1 hj1
    rw [hget i hi3, hget j hj3]
    have hne : zs[j - 1] ≠ zs[j] := by
      unfold Lib.keeps at hj2
      have hj0 : ¬ j = 0 := by omega
      simp [hj0] at hj2
      intro e
      apply hj2
      rw [List.getElem?_eq_getElem hj3, List.getElem?_eq_getElem (by omega : j - 1 < zs.length), e]
    have h1 := le_ne (h (j - 1) j (by omega) hj3 (by omega)) hne
    by_cases hc : i = j - 1
    · subst hc; exact h1
    · exact le_lt (h i (j - 1) hi3 (by omega) (by omega)) h1
  · intro x
    constructor
    · intro hx
      obtain ⟨i, hi, rfl⟩ := List.mem_map.1 hx
      have hi3 := List.mem_range.1 (List.mem_filter.1 hi).1
      rw [hget i hi3]
      exact List.getElem_mem hi3
    · intro hx
      obtain ⟨j, hj, rfl⟩ := List.mem_iff_getElem.1 hx
      -- the first place of it
      have : ∀ j (hj : j < zs.length), ∃ m, ∃ hm : m < zs.length, zs[m] = zs[j] ∧ Lib.keeps zs.toArray m = true := by
        intro j
        induction j with
        | zero => intro hj; exact ⟨0, hj, rfl, by simp [Lib.keeps]⟩
        | succ j ih =>
          intro hj
          by_cases he : zs[j] = zs[j + 1]
          · obtain ⟨m, hm, h1, h2⟩ := ih (by omega)
            exact ⟨m, hm, h1.trans he, h2⟩
          · refine ⟨j + 1, hj, rfl, ?_⟩
            unfold Lib.keeps
            simp [hj, show j < zs.length by omega]
            exact fun e => he e.symm
      obtain ⟨m, hm, h1, h2⟩ := this j hj
      exact List.mem_map.2 ⟨m, List.mem_filter.2 ⟨List.mem_range.2 hm, h2⟩, by rw [hget m hm, h1]⟩
end Go.Proofs.YtnmhnjjehglcfaaGreat.SrchM

/- A map that holds true at each state that has come: asked, and written. -/
namespace Go.Proofs.YtnmhnjjehglcfaaGreat.Ents
open Go.RowKit Plan HisMath Rws Env
open MapKept (run_setObj_map)
open Go.ChangeMaps (setBlock heap_setBlock_same heap_setBlock_other)
def staV (p : Int × ByteArray) : Value := .agg #[.int .i64 p.1, .string p.2]
/-- block B is a map that holds true at each one of a list of states -/
def StSeen (W : World) (B : Nat) (L : List (Int × ByteArray)) : Prop :=
  ∃ es ck, W.heap[B]? = some (.map es ck) ∧ (∀ e ∈ es.toList, e.val = .bool true ∧ ∃ l, keyOf Tryz.prog 87 e.key = some l) ∧ ∀ p : Int × ByteArray, (∃ e ∈ es.toList, e.key = staV p) ↔ p ∈ L
theorem StSeen.new {W : World} {B : Nat} (h : W.heap[B]? = some (.map #[] 0)) : StSeen W B [] :=
  ⟨_, _, h, by simp, by simp⟩
theorem StSeen.on {W W' : World} {B : Nat} {L : List (Int × ByteArray)} (h : StSeen W B L) (hb : W'.heap[B]? = W.heap[B]?) : StSeen W' B L := by
  obtain ⟨es, ck, h1, h2⟩ := h
  exact ⟨es, ck, hb.trans h1, h2⟩
theorem StSeen.lt {W : World} {B : Nat} {L : List (Int × ByteArray)} (h : StSeen W B L) : B < W.heap.size := by
  obtain ⟨es, ck, h1, h2⟩ := h
  exact (Array.getElem?_eq_some_iff.1 h1).1
end Go.Proofs.YtnmhnjjehglcfaaGreat.Ents

/- The program's map that holds true at each state that has come: asked, and written. -/
namespace Go.Proofs.YtnmhnjjehglcfaaGreat.Ents
open Go.RowKit Plan HisMath Rws Env
open MapKept (run_setObj_map)
open Go.ChangeMaps (setBlock heap_setBlock_same heap_setBlock_other)
def lsaV (p : Int × ByteArray) : Value := .agg #[.int .u32 p.1, .string p.2]
/-- block B is a map that holds true at each one of a list of states -/
def LsSeen (W : World) (B : Nat) (L : List (Int × ByteArray)) : Prop :=
  ∃ es ck, W.heap[B]? = some (.map es ck) ∧ (∀ e ∈ es.toList, e.val = .bool true ∧ ∃ l, keyOf Tryz.prog 136 e.key = some l) ∧ ∀ p : Int × ByteArray, (∃ e ∈ es.toList, e.key = lsaV p) ↔ p ∈ L
theorem LsSeen.new {W : World} {B : Nat} (h : W.heap[B]? = some (.map #[] 0)) : LsSeen W B [] :=
  ⟨_, _, h, by simp, by simp⟩
theorem LsSeen.on {W W' : World} {B : Nat} {L : List (Int × ByteArray)} (h : LsSeen W B L) (hb : W'.heap[B]? = W.heap[B]?) : LsSeen W' B L := by
  obtain ⟨es, ck, h1, h2⟩ := h
  exact ⟨es, ck, hb.trans h1, h2⟩
theorem LsSeen.lt {W : World} {B : Nat} {L : List (Int × ByteArray)} (h : LsSeen W B L) : B < W.heap.size := by
  obtain ⟨es, ck, h1, h2⟩ := h
  exact (Array.getElem?_eq_some_iff.1 h1).1
section
variable {w W : World} {T : List Thing} {mb : Nat} {Sn : List (Int × ByteArray)}
variable {ops : Array Oper} {Q : Exit → Act → World → Prop} {S : World → Prop}
end
end Go.Proofs.YtnmhnjjehglcfaaGreat.Ents
