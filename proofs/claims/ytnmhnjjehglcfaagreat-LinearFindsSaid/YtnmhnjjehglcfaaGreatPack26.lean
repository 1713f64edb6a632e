/- Texts that belong together, part 26. -/
import Derived.Test.YtnmhnjjehglcfaaGreatPack25

/- What the program promises of blocks; the walks of the laws' light and awake. -/
namespace Go.Proofs.YtnmhnjjehglcfaaGreat.ModMath
open Go Go.RowKit
end Go.Proofs.YtnmhnjjehglcfaaGreat.ModMath
namespace Go.Proofs.YtnmhnjjehglcfaaGreat.Ents
open Go.RowKit Plan ModMath CmdMath Rws Env LayMath
structure ModelOk : Prop where
  new : ∀ (n : Int) (w : World), Calls Tryz.prog 107 #[.int .i64 n] w (SPost w (fun _ => False) (newB n))
  apply : ∀ (F : Nat → Prop) (B : List ByteArray) (a : Option Addr) (n c : Nat) (k b : Int) (s : ByteArray) (w : World), SList w F a n c B → n ≤ 8796093022208 →
    Calls Tryz.prog 106 #[.slice a n c, cmdV k b s] w (APost w F (applyB B ⟨k, b, s⟩) (applyR B ⟨k, b, s⟩))
  run : ∀ (F F2 : Nat → Prop) (B : List ByteArray) (l : List Cmd) (a b : Option Addr) (n c m d : Nat) (w : World), SList w F a n c B → CList' w F2 b m d l → n ≤ 8796093022208 → m ≤ 100000 →
    Calls Tryz.prog 98 #[.slice a n c, .slice b m d] w (RPost w F (runB B l) (runR B l))
end Go.Proofs.YtnmhnjjehglcfaaGreat.Ents

/- The walk of the document's alone: the events of a block as events of the block 0. -/
namespace Go.Proofs.YtnmhnjjehglcfaaGreat.LinMath
open HisMath
def partE (X : List Ev) (j : Nat) : List Ev := (X.take j).map (blkEv 0) ++ X.drop j
theorem part_get {X : List Ev} {j : Nat} {e : Ev} (h : X[j]? = some e) : (partE X j)[j]? = some e ∧ (partE X j).set j (blkEv 0 e) = partE X (j + 1) := by
  have hj := (List.getElem?_eq_some_iff.1 h).1
  have hl : ((X.take j).map (blkEv 0)).length = j := by rw [List.length_map, List.length_take]; omega
  have hd : X.drop j = e :: X.drop (j + 1) := by rw [List.drop_eq_getElem_cons hj, (List.getElem?_eq_some_iff.1 h).2]
  unfold partE
  constructor
  · rw [List.getElem?_append_right (by omega), hl, Nat.sub_self, hd]; rfl
  · rw [List.set_append_right _ _ (by omega), hl, Nat.sub_self, hd, List.set_cons_zero, List.take_succ_eq_append_getElem hj, (List.getElem?_eq_some_iff.1 h).2, List.map_append, List.append_assoc]; rfl
theorem part_all (X : List Ev) : partE X X.length = X.map (blkEv 0) := by simp [partE]
theorem part_none (X : List Ev) : partE X 0 = X := by simp [partE]
end Go.Proofs.YtnmhnjjehglcfaaGreat.LinMath
namespace Go.Proofs.YtnmhnjjehglcfaaGreat.Ents
open Go.RowKit Plan HisMath LinMath Rws Env LayMath
set_option maxHeartbeats 8000000 in
set_option maxRecDepth 20000 in
theorem refAlone_any (F : Nat → Prop) (L : List Ev) (a : Option Addr) (n c : Nat) (b : Int) (w : World) (hl : VList w F a n c L) (hm : n ≤ 100000) :
    Calls Tryz.prog 57 #[.slice a n c, .int .i64 b] w (VPost w (aloneE L b)) := by
  have HR := Lib.hid (refRestrictO_any F L a n c b w hl hm)
  have hA : aloneE L b = (restE L b).map (blkEv 0) := rfl
  rw [hA]
  have hlx : (restE L b).length ≤ 100000 := by
    have h1 : (restE L b).length ≤ L.length := List.length_filter_le _ _
    have h2 := hl.length
    omega
  clear hl hA
  generalize restE L b = X at *
  unfold OVPost at HR
  unfold VPost
  go_enter Tryz.func57, Tryz.ntmps57
  go_wp2_with (first
    | (go_at_call 25; ((with_reducible refine (HR.out).mono ?_); rintro r9 w1 ⟨v9, rfl, ⟨k, hown⟩, hb⟩; obtain ⟨a2, c2, rfl, _⟩ := owns_list (F := fun _ => True) vrOk hown (fun _ _ => trivial); have K := ((Env.start w).got hb hown).1; clear hb hown)))
  have hk := owns_len vrOk (K.own 0 rfl)
  rw [← part_none X] at K
  go_loopw [6] (fun x wr => ∃ (j : Nat), x = .int .i64 (j : Int) ∧ j ≤ k ∧ Env w wr [.own VR.et VR.sz (.slice a2 k c2) k (VR.all (partE X j))]) (fun x _ => k - (intOf x).toNat)
  case atStart => exact ⟨0, rfl, by omega, K⟩
  case round =>
    clear K
    obtain ⟨j, rfl, hj, K⟩ := hrel
    by_cases hlt : j < k
    · have hjI : (j : Int) < (k : Int) := by omega
      obtain ⟨g, c9, e9, _, _⟩ := owns_some (R := VR) (K.own 0 rfl) (show 0 < k by omega)
      obtain ⟨rfl, -, rfl⟩ := Value.slice.inj e9
      clear e9
      obtain ⟨e, he⟩ : ∃ e, X[j]? = some e := ⟨_, List.getElem?_eq_getElem (by omega)⟩
      obtain ⟨h1, h2⟩ := part_get he
      obtain ⟨er, eq, es, ek, eb, ed, ee, ex⟩ := e
      have hcf : wr.cell? ⟨g, j * 8 + 4, none⟩ = some (.int .i64 eb) ∧ wr.frozen? ⟨g, j * 8 + 4, none⟩ = false := K.ownF vrOk 0 rfl (f := 4) h1 rfl
      obtain ⟨hc4, hf4⟩ := hcf
      have K9 : Env w (wr.setCell ⟨g, j * 8 + 4, none⟩ (.int .i64 0)) _ := (K.setF vrOk 0 rfl (f := 4) (blkEv 0 ⟨er, eq, es, ek, eb, ed, ee, ex⟩) h1 (by show 4 < 8; decide) (u := .int .i64 0) rfl).1
      simp only [List.set] at K9
      rw [h2] at K9
      clear h1 h2 he
      go_wp2_with fail
      go_roundw
      case rel => exact ⟨j + 1, by go_num, by omega, K9⟩
      case measure => simp [intOf]; omega
    · obtain rfl : j = k := by omega
      have hjI : ¬ (j : Int) < (j : Int) := by omega
      rw [← hk, part_all, hk] at K
      go_wp2_with fail
      go_ret
      obtain ⟨a9, c9, e9, l9⟩ := owns_list (F := fun b => w.heap.size ≤ b) vrOk (K.own 0 rfl) (fun b h9 => ((K.own 0 rfl).lt b h9).1)
      cases e9
      exact ⟨_, _, _, rfl, l9, K.hb⟩
end Go.Proofs.YtnmhnjjehglcfaaGreat.Ents

/- Histories of operations that happen at once between their invocation and their return have a linearization. Plain mathematics. -/
namespace Go.Proofs.YtnmhnjjehglcfaaGreat.LinMath
open HisMath ModMath CmdMath
def clrEv (x : Ev) : Ev := { x with err := 0, res := ⟨#[]⟩ }
def retEv (x : Ev) : Ev := { x with ret := true }
/-- what was applied: xs, in its order -/
structure Applied (B0 : List ByteArray) (O P : List Ev) (A : Int → Bool) (B : List ByteArray) (xs : List Ev) : Prop where
  run : runW B0 xs = some B
  inv : ∀ x ∈ xs, A x.serial = true ∧ ∃ e ∈ O, e.ret = false ∧ e.serial = x.serial ∧ cmdOf e = cmdOf x
  retx : ∀ x ∈ xs, x.ret = true
  nd : xs.Pairwise (fun x y => x.serial ≠ y.serial)
  opn : ∀ e ∈ P, A e.serial = true → retEv e ∈ xs
  done : ∀ y ∈ O, y.ret = true → y ∈ xs
  ord : xs.Pairwise (fun t s => beforeB O s.serial t.serial = false)
structure LMade (n m : Nat) (wrong : Bool) (O P : List Ev) (A : Int → Bool) (B : List ByteArray) (s : Int) : Prop where
  made : Made O (P.map clrEv) s
  cmds : ∀ x ∈ O, checkC (n : Int) x.kind x.block x.data.size = 0 ∧ x.kind ≠ 4
  len : B.length = n
  size : ∀ v ∈ B, v.size = 16
  low : ∀ t, A t = true → t < s
  res : ∀ e ∈ P, A e.serial = true → e.err = 0 ∧ fitsB e.kind 0 e.res.size = true
  retd : ∀ y ∈ O, y.ret = true → y.err = 0
  count : (invs O).length = P.length + (rets O).length
  few : 2 * (invs O).length ≤ m + 5
  app : wrong = false → ∃ xs, Applied (newB (n : Int)) O P A B xs
theorem newB_is {n : Nat} (h1 : 1 ≤ n) (h2 : n ≤ 128) : newB (n : Int) = List.replicate n zeroC := by
  unfold newB
  rw [if_neg (by omega), Int.toNat_natCast]
theorem LMade.start {n : Nat} (m : Nat) (wrong : Bool) (h1 : 1 ≤ n) (h2 : n ≤ 128) : LMade n m wrong [] [] (fun _ => false) (newB (n : Int)) 0 := by
  refine ⟨Made.start, by simp, ?_, ?_, by simp, by simp, by simp, rfl, by simp [invs], fun _ => ⟨[], rfl, by simp, by simp, .nil, by simp, by simp, .nil⟩⟩
  · rw [newB_is h1 h2]; simp
  · rw [newB_is h1 h2]
    intro v hv
    rw [(List.mem_replicate.1 hv).2]
    rfl
theorem LMade.mono {n m : Nat} {wrong : Bool} {O P : List Ev} {A : Int → Bool} {B : List ByteArray} {s t : Int} (h : LMade n m wrong O P A B s) (hst : s ≤ t) : LMade n m wrong O P A B t :=
  ⟨⟨h.made.right, fun x hx => by have := h.made.low x hx; omega, h.made.cmd, h.made.calls, h.made.open', h.made.apart⟩, h.cmds, h.len, h.size, fun u hu => by have := h.low u hu; omega, h.res, h.retd, h.count, h.few, h.app⟩
/-- what is before what behind one more event -/
theorem before_snoc {O : List Ev} {x : Ev} (h : Right (O ++ [x])) {s t : Int} (hb : beforeB (O ++ [x]) s t = true) : beforeB O s t = true ∨ (x.ret = false ∧ x.serial = t) := by
  have hO := right_front h
  obtain ⟨p, q, hs, hp1, hp2, hq1, hq2⟩ := (before_sub h).1 hb
  obtain ⟨l1, l2, he, h1, h2⟩ := List.sublist_append_iff.1 hs
  cases l2 with
  | nil =>
    rw [List.append_nil] at he
    subst he
    exact .inl ((before_sub hO).2 ⟨p, q, h1, hp1, hp2, hq1, hq2⟩)
  | cons a l2 =>
    have hl : l2 = [] := by
      have := h2.length_le
      simp at this
      exact this
    subst hl
    have ha : a = x := by simpa using h2
    subst ha
    have : q = a := by
      have := congrArg List.getLast? he
      simpa using this
    subst this
    exact .inr ⟨hq1, hq2⟩
theorem inv_ret : ∀ (O : List Ev), (invs O).length + (rets O).length = O.length
  | [] => rfl
  | x :: O => by
    have := inv_ret O
    unfold invs rets at this ⊢
    cases hr : x.ret <;> simp [hr] <;> omega
theorem apart_set {P : List Ev} (ha : P.Pairwise (fun x y => x.serial ≠ y.serial)) {k : Nat} {e f g : Ev} (he : P[k]? = some e) (hf : f ∈ P.set k g) : f = g ∨ (f ∈ P ∧ f.serial ≠ e.serial) := by
  obtain ⟨i, hi⟩ := List.mem_iff_getElem?.1 hf
  rw [List.getElem?_set] at hi
  obtain ⟨hk, he⟩ := List.getElem?_eq_some_iff.1 he
  by_cases hik : k = i
  · rw [if_pos hik, if_pos (by omega)] at hi
    exact .inl (Option.some.inj hi).symm
  · rw [if_neg hik] at hi
    obtain ⟨hl, hi⟩ := List.getElem?_eq_some_iff.1 hi
    rw [List.pairwise_iff_getElem] at ha
    refine .inr ⟨hi ▸ List.getElem_mem hl, fun hs => ?_⟩
    rcases Nat.lt_or_gt_of_ne hik with h | h
    · exact ha k i hk hl h (by rw [he, hi, hs])
    · exact ha i k hl hk h (by rw [he, hi, hs])
theorem LMade.apart {n m : Nat} {wrong : Bool} {O P : List Ev} {A : Int → Bool} {B : List ByteArray} {s : Int} (h : LMade n m wrong O P A B s) : P.Pairwise (fun x y => x.serial ≠ y.serial) := by
  have := h.made.apart
  rw [List.pairwise_map] at this
  exact this
theorem LMade.inv {n m : Nat} {wrong : Bool} {O P : List Ev} {A : Int → Bool} {B : List ByteArray} {s : Int} (h : LMade n m wrong O P A B s) {x : Ev} (hr : x.ret = false) (q0 : 0 ≤ x.queue) (q4 : x.queue < 4) (hs : x.serial = s) (h0 : 0 ≤ s) (he : x.err = 0) (hx : x.res = ⟨#[]⟩)
    (hc : checkC (n : Int) x.kind x.block x.data.size = 0) (hk : x.kind ≠ 4) (hn : n ≤ 3) (hP : P.length < 5) (hO : O.length < m) : LMade n m wrong (O ++ [x]) (P ++ [x]) A B (s + 1) := by
  have hz := check_zero hc
  have hb := hz.2.2 hk
  have hclr : clrEv x = x := by
    obtain ⟨a1, a2, a3, a4, a5, a6, a7, a8⟩ := x
    simp only at he hx
    subst he; subst hx
    rfl
  have hA : A x.serial = false := by
    cases hq : A x.serial with
    | false => rfl
    | true => have := h.low _ hq; omega
  have hM : Made (O ++ [x]) ((P ++ [x]).map clrEv) (s + 1) := by
    rw [List.map_append, List.map_singleton, hclr]
    exact h.made.inv hr q0 q4 hs h0 he (by rw [hx]; rfl) ⟨hz.1.1, hz.1.2, hb.1, by omega⟩
  have hinv : (invs (O ++ [x])).length = (invs O).length + 1 := by simp [invs, hr]
  have hret : (rets (O ++ [x])).length = (rets O).length := by simp [rets, hr]
  have hsum : (invs O).length + (rets O).length = O.length := inv_ret O
  have hcount := h.count
  refine ⟨hM, fun y hy => ?_, h.len, h.size, fun t ht => by have := h.low t ht; omega, fun e he' hA' => ?_, fun y hy hyr => ?_, ?_, ?_, fun hw => ?_⟩
  · rcases List.mem_append.1 hy with h1 | h1
    · exact h.cmds y h1
    · rw [List.mem_singleton.1 h1]; exact ⟨hc, hk⟩
  · rcases List.mem_append.1 he' with h1 | h1
    · exact h.res e h1 hA'
    · rw [List.mem_singleton.1 h1, hA] at hA'; cases hA'
  · rcases List.mem_append.1 hy with h1 | h1
    · exact h.retd y h1 hyr
    · rw [List.mem_singleton.1 h1, hr] at hyr; cases hyr
  · rw [hinv, hret, List.length_append, List.length_singleton]; omega
  · rw [hinv]; omega
  · obtain ⟨xs, q⟩ := h.app hw
    refine ⟨xs, q.run, fun y hy => ?_, q.retx, q.nd, fun e he' hA' => ?_, fun y hy hyr => ?_, ?_⟩
    · obtain ⟨h1, e, h2, h3⟩ := q.inv y hy
      exact ⟨h1, e, List.mem_append_left _ h2, h3⟩
    · rcases List.mem_append.1 he' with h1 | h1
      · exact q.opn e h1 hA'
      · rw [List.mem_singleton.1 h1, hA] at hA'; cases hA'
    · rcases List.mem_append.1 hy with h1 | h1
      · exact q.done y h1 hyr
      · rw [List.mem_singleton.1 h1, hr] at hyr; cases hyr
    · refine q.ord.imp_of_mem fun {t u} ht hu htu => ?_
      cases hbf : beforeB (O ++ [x]) u.serial t.serial with
      | false => rfl
      | true =>
        exfalso
        rcases before_snoc hM.right hbf with h1 | h1
        · rw [h1] at htu; cases htu
        · have := (q.inv t ht).1
          rw [← h1.2, hA] at this
          cases this
theorem set_clr {P : List Ev} {k : Nat} {e f : Ev} (he : P[k]? = some e) (hf : clrEv f = clrEv e) : (P.set k f).map clrEv = P.map clrEv := by
  rw [List.map_set, hf]
  apply List.ext_getElem?
  intro i
  rw [List.getElem?_set]
  split
  · rename_i hi
    subst hi
    rw [List.getElem?_map, he, List.length_map, if_pos (List.getElem?_eq_some_iff.1 he).1]
    rfl
  · rfl
theorem LMade.apply {n m : Nat} {wrong : Bool} {O P : List Ev} {A : Int → Bool} {B : List ByteArray} {s : Int} (h : LMade n m wrong O P A B s) {k : Nat} {e : Ev} (he : P[k]? = some e) (hA : A e.serial = false) :
    LMade n m wrong O (P.set k { e with err := (applyR B (cmdOf e)).err, res := (applyR B (cmdOf e)).data }) (fun t => if t = e.serial then true else A t) (applyB B (cmdOf e)) s := by
  have hm := List.mem_of_getElem? he
  have hc := h.made.calls (clrEv e) (List.mem_map.2 ⟨e, hm, rfl⟩)
  have hop := h.made.open' (clrEv e) (List.mem_map.2 ⟨e, hm, rfl⟩)
  have hcm : checkC (n : Int) e.kind e.block e.data.size = 0 ∧ e.kind ≠ 4 := h.cmds (clrEv e) hc.1
  have hz := check_zero hcm.1
  have hb := hz.2.2 hcm.2
  have herr : errM B (cmdOf e) = 0 := by unfold errM; rw [h.len]; exact hcm.1
  have hR0 : (applyR B (cmdOf e)).err = 0 := by
    unfold applyR
    rw [if_neg (by omega)]
    split <;> rfl
  have hfit : fitsB e.kind 0 (applyR B (cmdOf e)).data.size = true := by
    unfold applyR fitsB
    rw [if_neg (show ¬ errM B (cmdOf e) ≠ 0 by omega), if_pos rfl]
    by_cases h1 : e.kind = 1
    · rw [if_pos h1, if_pos (show (cmdOf e).kind = 1 from h1)]
      have hlt : (cmdOf e).block.toNat < B.length := by
        rw [h.len]
        show e.block.toNat < n
        omega
      rw [List.getD_eq_getElem?_getD, List.getElem?_eq_getElem hlt]
      exact decide_eq_true (h.size _ (List.getElem_mem hlt))
    · rw [if_neg h1, if_neg (show ¬ (cmdOf e).kind = 1 from h1)]
      rfl
  have hset : (P.set k { e with err := (applyR B (cmdOf e)).err, res := (applyR B (cmdOf e)).data }).map clrEv = P.map clrEv := set_clr he rfl
  refine ⟨by rw [hset]; exact h.made, h.cmds, by rw [apply_len]; exact h.len, fun v hv => ?_, fun t ht => ?_, fun f hf hA' => ?_, h.retd, by rw [List.length_set]; exact h.count, h.few, fun hw => ?_⟩
  · unfold applyB at hv
    rw [if_neg (by omega)] at hv
    split at hv
    · rename_i h2
      rcases List.mem_or_eq_of_mem_set hv with h1 | h1
      · exact h.size v h1
      · rw [h1]
        show e.data.size = 16
        have h2' : e.kind = 2 := h2
        have := hcm.1
        unfold checkC at this
        split at this
        · omega
        · split at this
          · omega
          · split at this
            · omega
            · rename_i a b c
              omega
    · split at hv
      · rcases List.mem_or_eq_of_mem_set hv with h1 | h1
        · exact h.size v h1
        · rw [h1]; rfl
      · exact h.size v hv
  · by_cases h1 : t = e.serial
    · have := h.made.low _ hc.1
      have h2 : (clrEv e).serial = e.serial := rfl
      omega
    · simp only [if_neg h1] at ht
      exact h.low t ht
  · rcases apart_set h.apart he hf with h1 | ⟨h1, h2⟩
    · rw [h1]
      exact ⟨hR0, hfit⟩
    · simp only [if_neg h2] at hA'
      exact h.res f h1 hA'
  · obtain ⟨xs, q⟩ := h.app hw
    refine ⟨xs ++ [retEv { e with err := (applyR B (cmdOf e)).err, res := (applyR B (cmdOf e)).data }], ?_, fun y hy => ?_, fun y hy => ?_, ?_, fun f hf hA' => ?_, fun y hy hyr => List.mem_append_left _ (q.done y hy hyr), ?_⟩
    · rw [runW_snoc, q.run]
      have hff : fitR B (retEv { e with err := (applyR B (cmdOf e)).err, res := (applyR B (cmdOf e)).data }) := fun _ => ⟨rfl, rfl⟩
      simp only [if_pos hff]
      rfl
    · rcases List.mem_append.1 hy with h1 | h1
      · obtain ⟨a1, a2⟩ := q.inv y h1
        refine ⟨?_, a2⟩
        show (if y.serial = e.serial then true else A y.serial) = true
        split
        · rfl
        · exact a1
      · rw [List.mem_singleton.1 h1]
        exact ⟨if_pos rfl, clrEv e, hc.1, hc.2, rfl, rfl⟩
    · rcases List.mem_append.1 hy with h1 | h1
      · exact q.retx y h1
      · rw [List.mem_singleton.1 h1]; rfl
    · rw [List.pairwise_append]
      refine ⟨q.nd, List.pairwise_singleton _ _, fun y hy z hz hs => ?_⟩
      rw [List.mem_singleton.1 hz] at hs
      have := (q.inv y hy).1
      rw [hs] at this
      have h9 : A e.serial = true := this
      rw [hA] at h9; cases h9
    · rcases apart_set h.apart he hf with h1 | ⟨h1, h2⟩
      · rw [h1]; simp
      · simp only [if_neg h2] at hA'
        exact List.mem_append_left _ (q.opn f h1 hA')
    · rw [List.pairwise_append]
      refine ⟨q.ord, List.pairwise_singleton _ _, fun y hy z hz => ?_⟩
      rw [List.mem_singleton.1 hz]
      show beforeB O e.serial y.serial = false
      have hret : retI O e.serial < 0 := ret_neg.2 fun w hw hwr => hop w hw hwr
      unfold beforeB
      rw [decide_eq_false (by omega), Bool.false_and, Bool.false_and]
/-- a return of an operation that was applied -/
theorem LMade.ret {n m : Nat} {wrong : Bool} {O P : List Ev} {A : Int → Bool} {B : List ByteArray} {s : Int} (h : LMade n m wrong O P A B s) {k : Nat} {e x : Ev} (he : P[k]? = some e) (hA : A e.serial = true) (hx : x = retEv e ∨ (wrong = true ∧ e.kind = 1 ∧ ∃ v : ByteArray, v.size = 16 ∧ x = { retEv e with res := v })) :
    LMade n m wrong (O ++ [x]) (P.take k ++ P.drop (k + 1)) A B s := by
  have hm := List.mem_of_getElem? he
  have hc := h.made.calls (clrEv e) (List.mem_map.2 ⟨e, hm, rfl⟩)
  have hre := h.res e hm hA
  have hxs : x.ret = true ∧ x.queue = e.queue ∧ x.serial = e.serial ∧ x.kind = e.kind ∧ x.block = e.block ∧ x.data = e.data ∧ x.err = 0 ∧ fitsB x.kind x.err x.res.size = true := by
    rcases hx with rfl | ⟨_, hk, v, hv, rfl⟩
    · refine ⟨rfl, rfl, rfl, rfl, rfl, rfl, hre.1, ?_⟩
      show fitsB e.kind e.err e.res.size = true
      rw [hre.1]; exact hre.2
    · refine ⟨rfl, rfl, rfl, rfl, rfl, rfl, hre.1, ?_⟩
      show fitsB e.kind e.err v.size = true
      rw [hre.1, hv, hk]; rfl
  obtain ⟨x1, x2, x3, x4, x5, x6, x7, x8⟩ := hxs
  have hM : Made (O ++ [x]) ((P.take k ++ P.drop (k + 1)).map clrEv) s := by
    rw [List.map_append, List.map_take, List.map_drop]
    exact h.made.ret (e := clrEv e) (by rw [List.getElem?_map, he]; rfl) x1 x2 x3 x4 x5 x6 x8 s (Int.le_refl _)
  have hsub : ∀ y ∈ P.take k ++ P.drop (k + 1), y ∈ P := fun y hy => by
    rcases List.mem_append.1 hy with h3 | h3
    · exact List.mem_of_mem_take h3
    · exact List.mem_of_mem_drop h3
  have hinv : (invs (O ++ [x])).length = (invs O).length := by simp [invs, x1]
  have hret : (rets (O ++ [x])).length = (rets O).length + 1 := by simp [rets, x1]
  have hcount := h.count
  have hfew := h.few
  have hk := (List.getElem?_eq_some_iff.1 he).1
  refine ⟨hM, fun y hy => ?_, h.len, h.size, h.low, fun f hf hA' => h.res f (hsub f hf) hA', fun y hy hyr => ?_, ?_, by rw [hinv]; exact hfew, fun hw => ?_⟩
  · rcases List.mem_append.1 hy with h1 | h1
    · exact h.cmds y h1
    · rw [List.mem_singleton.1 h1, x4, x5, x6]; exact h.cmds (clrEv e) hc.1
  · rcases List.mem_append.1 hy with h1 | h1
    · exact h.retd y h1 hyr
    · rw [List.mem_singleton.1 h1]; exact x7
  · rw [hinv, hret, List.length_append, List.length_take, List.length_drop]; omega
  · obtain ⟨xs, q⟩ := h.app hw
    refine ⟨xs, q.run, fun y hy => ?_, q.retx, q.nd, fun f hf hA' => q.opn f (hsub f hf) hA', fun y hy hyr => ?_, ?_⟩
    · obtain ⟨h1, f, h2, h3⟩ := q.inv y hy
      exact ⟨h1, f, List.mem_append_left _ h2, h3⟩
    · rcases List.mem_append.1 hy with h1 | h1
      · exact q.done y h1 hyr
      · rw [List.mem_singleton.1 h1]
        rcases hx with rfl | ⟨h9, _⟩
        · exact q.opn e hm hA
        · rw [hw] at h9; cases h9
    · refine q.ord.imp_of_mem fun {t u} ht hu htu => ?_
      cases hbf : beforeB (O ++ [x]) u.serial t.serial with
      | false => rfl
      | true =>
        exfalso
        rcases before_snoc hM.right hbf with h1 | h1
        · rw [h1] at htu; cases htu
        · rw [h1.1] at x1; cases x1
theorem run_map2 (g : Ev → Ev) : ∀ (xs : List Ev) (B : List ByteArray), (∀ x ∈ xs, cmdOf (g x) = cmdOf x ∧ ((g x).ret = true → x.ret = true ∧ x.err = (g x).err ∧ x.res = (g x).res)) → (runW B xs).isSome = true → (runW B (xs.map g)).isSome = true
  | [], _, _, _ => rfl
  | x :: xs, B, hg, h => by
    rw [runW] at h
    split at h
    · rename_i hf
      obtain ⟨h1, h2⟩ := hg x (by simp)
      have hf2 : fitR B (g x) := fun hr => by
        obtain ⟨a1, a2, a3⟩ := h2 hr
        rw [h1, ← a2, ← a3]
        exact hf a1
      rw [List.map_cons, runW, if_pos hf2, h1]
      exact run_map2 g xs _ (fun y hy => hg y (List.mem_cons_of_mem _ hy)) h
    · cases h
theorem Applied.lin {B0 B : List ByteArray} {O P xs : List Ev} {A : Int → Bool} (hR : Right O) (hret : ∀ y ∈ O, y.ret = true → y.err = 0) (q : Applied B0 O P A B xs) : LinX B0 O (xs.map (gM O)) := by
  have hg : ∀ x ∈ xs, ∃ e ∈ O, e.ret = false ∧ e.serial = x.serial ∧ gM O x = opOf O e ∧ cmdOf (gM O x) = cmdOf x ∧ ((gM O x).ret = true → x.ret = true ∧ x.err = (gM O x).err ∧ x.res = (gM O x).res) := fun x hx => by
    obtain ⟨_, e, he, her, hes, hec⟩ := q.inv x hx
    have hi := hR.inv_at he her
    have hgx : gM O x = opOf O e := by
      unfold gM
      rw [← hes, hi.2]
    have hk := op_cmd O e
    have hce : cmdOf (opOf O e) = cmdOf e := by
      unfold cmdOf
      rw [hk.1, hk.2.1, hk.2.2.1]
    refine ⟨e, he, her, hes, hgx, by rw [hgx, hce, hec], fun h9 => ⟨q.retx x hx, ?_⟩⟩
    rw [hgx, op_ret her, decide_eq_true_eq] at h9
    obtain ⟨i, y, h1, h2, h3, _⟩ := seek_is h9
    obtain ⟨hyr, hys⟩ := ret_is h3
    have h1' : retI O e.serial = (i : Int) := h1
    have hyx : y = x := by
      have hyi := q.done y (List.mem_of_getElem? h2) hyr
      obtain ⟨a, ha⟩ := List.mem_iff_getElem?.1 hyi
      obtain ⟨b, hb⟩ := List.mem_iff_getElem?.1 hx
      obtain ⟨ha1, ha2⟩ := List.getElem?_eq_some_iff.1 ha
      obtain ⟨hb1, hb2⟩ := List.getElem?_eq_some_iff.1 hb
      have hnd := List.pairwise_iff_getElem.1 q.nd
      rcases Nat.lt_trichotomy a b with h | h | h
      · exact absurd (by rw [ha2, hb2, hys, hes]) (hnd a b ha1 hb1 h)
      · subst h; rw [ha] at hb; exact Option.some.inj hb
      · exact absurd (by rw [ha2, hb2, hys, hes]) (hnd b a hb1 ha1 h)
    have hO : (opOf O e).err = y.err ∧ (opOf O e).res = y.res := by
      unfold opOf
      rw [if_pos h9, h1', Int.toNat_natCast, h2]
      exact ⟨rfl, rfl⟩
    rw [hgx, hO.1, hO.2, hyx]
    exact ⟨rfl, rfl⟩
  have hser : ∀ x ∈ xs, (gM O x).serial = x.serial := fun x hx => by
    obtain ⟨e, _, _, h3, h4, _⟩ := hg x hx
    rw [h4, (op_cmd O e).2.2.2.1, h3]
  refine ⟨fun z hz => ?_, ?_, fun z hz => ?_, fun y hy hmu => ?_, ?_, ?_⟩
  · obtain ⟨x, hx, rfl⟩ := List.mem_map.1 hz
    obtain ⟨e, h1, h2, _, h4, _⟩ := hg x hx
    exact (mem_ops hR).2 ⟨e, h1, h2, h4.symm⟩
  · rw [List.pairwise_map]
    refine q.nd.imp_of_mem fun {a b} ha hb hab => ?_
    rw [hser a ha, hser b hb]; exact hab
  · obtain ⟨x, hx, rfl⟩ := List.mem_map.1 hz
    obtain ⟨e, h1, h2, _, h4, _⟩ := hg x hx
    cases hb : (gM O x).ret with
    | false => simp [skipP, hb]
    | true =>
      rw [h4, op_ret h2, decide_eq_true_eq] at hb
      obtain ⟨i, y, a1, a2, a3, _⟩ := seek_is hb
      have a1' : retI O e.serial = (i : Int) := a1
      have herr : (opOf O e).err = y.err := by
        unfold opOf
        rw [if_pos hb, a1', Int.toNat_natCast, a2]
      have := hret y (List.mem_of_getElem? a2) (ret_is a3).1
      rw [h4]
      simp [skipP, herr, this]
  · obtain ⟨e, he, her, rfl⟩ := (mem_ops hR).1 hy
    have hb : (opOf O e).ret = true := by
      unfold mustP at hmu
      rw [Bool.and_eq_true] at hmu
      exact hmu.1
    rw [op_ret her, decide_eq_true_eq] at hb
    obtain ⟨i, y, a1, a2, a3, _⟩ := seek_is hb
    obtain ⟨hyr, hys⟩ := ret_is a3
    have hyx := q.done y (List.mem_of_getElem? a2) hyr
    refine List.mem_map.2 ⟨y, hyx, ?_⟩
    unfold gM
    rw [hys, (hR.inv_at he her).2]
  · rw [List.pairwise_map]
    refine q.ord.imp_of_mem fun {t u} ht hu htu => ?_
    rw [hser t ht, hser u hu]; exact htu
  · refine run_map2 _ _ _ (fun x hx => ?_) (by rw [q.run]; rfl)
    obtain ⟨e, _, _, _, _, h5, h6⟩ := hg x hx
    exact ⟨h5, h6⟩
theorem LMade.lin {n m : Nat} {wrong : Bool} {O P : List Ev} {A : Int → Bool} {B : List ByteArray} {s : Int} (h : LMade n m wrong O P A B s) (hw : wrong = false) : ∃ xs, LinX (newB (n : Int)) O xs := by
  obtain ⟨xs, q⟩ := h.app hw
  exact ⟨_, q.lin h.made.right h.retd⟩
/-- its commands are right ones -/
theorem LMade.errs {n m : Nat} {wrong : Bool} {O P : List Ev} {A : Int → Bool} {B : List ByteArray} {s : Int} (h : LMade n m wrong O P A B s) {B0 : List ByteArray} (hB : B0.length = n) : ∀ y ∈ opsE O O.length, errM B0 (cmdOf y) = 0 := fun y hy => by
  obtain ⟨e, he, _, rfl⟩ := (mem_ops h.made.right).1 hy
  have hk := op_cmd O e
  have := (h.cmds e he).1
  unfold errM cmdOf
  rw [hk.1, hk.2.1, hk.2.2.1, hB]
  exact this
theorem LMade.ops {n m : Nat} {wrong : Bool} {O P : List Ev} {A : Int → Bool} {B : List ByteArray} {s : Int} (h : LMade n m wrong O P A B s) : 2 * (opsE O O.length).length ≤ m + 5 ∧ O.length ≤ m + 5 := by
  have h1 : (opsE O O.length).length = (invs O).length := by
    rw [ops_right h.made.right _ (Nat.le_refl _), List.take_length, List.length_map]; rfl
  have h2 := inv_ret O
  have h3 := h.count
  have h4 := h.few
  omega
end Go.Proofs.YtnmhnjjehglcfaaGreat.LinMath

/- The walk of the law's sanity check of blocks. -/
namespace Go.Proofs.YtnmhnjjehglcfaaGreat.ModMath
open CmdMath
end Go.Proofs.YtnmhnjjehglcfaaGreat.ModMath
namespace Go.Proofs.YtnmhnjjehglcfaaGreat.Ents
open Go.RowKit Plan ModMath CmdMath Rws Env LayMath
end Go.Proofs.YtnmhnjjehglcfaaGreat.Ents
