
/- What installs, relocations and drops do to the entry of a block. Plain mathematics. -/
import Derived.Test.YtljdepnhhngbeaaEntMath
namespace Go.Proofs.Ytljdepnhhngbeaa.EntMath
theorem newer_iff {L : List Ent} {e : Ent} (h : validB L = true) (he : okE e = true) : newer L e = true ↔ ∀ x, lookE L e.block = some x → x.version < e.version := by
  unfold newer
  rw [h, he]
  cases hx : lookE L e.block with
  | none => simp
  | some x => simp
theorem install_eq {L : List Ent} {e : Ent} (h : validB L = true) : installL L e = if newer L e = true then ins L e else L := by unfold installL; rw [if_pos h]
theorem newer_ok {L : List Ent} {e : Ent} (h : newer L e = true) : okE e = true := by
  unfold newer at h
  simp only [Bool.and_eq_true] at h
  exact h.1.2
theorem valid_install {L : List Ent} {e : Ent} (h : validB L = true) : validB (installL L e) = true := by
  rw [install_eq h]
  split
  · exact valid_ins h (newer_ok (by assumption))
  · exact h
/-- the entry of a block behind an install -/
def best (o : Option Ent) (e : Ent) : Option Ent := match o with | none => some e | some x => if x.version < e.version then some e else some x
theorem look_install {L : List Ent} {e : Ent} (h : validB L = true) (he : okE e = true) (c : Int) : lookE (installL L e) c = if e.block = c then best (lookE L c) e else lookE L c := by
  rw [install_eq h]
  by_cases hn : newer L e = true
  · rw [if_pos hn, look_ins]
    have hv := (newer_iff h he).1 hn
    by_cases hc : e.block = c
    · subst hc
      rw [if_pos rfl, if_pos rfl]
      unfold best
      cases hx : lookE L e.block with
      | none => rfl
      | some x => exact (if_pos (hv x hx)).symm
    · rw [if_neg hc, if_neg hc]
  · rw [if_neg hn]
    by_cases hc : e.block = c
    · subst hc
      rw [if_pos rfl]
      unfold best
      cases hx : lookE L e.block with
      | none => exact absurd ((newer_iff h he).2 (fun x hx' => by rw [hx] at hx'; cases hx')) hn
      | some x =>
        have hlt : ¬ x.version < e.version := fun hlt => hn ((newer_iff h he).2 (fun y hy => by rw [hx] at hy; obtain rfl := Option.some.inj hy; exact hlt))
        exact (if_neg hlt).symm
    · rw [if_neg hc]
theorem ins_length (L : List Ent) (e : Ent) : (ins L e).length ≤ L.length + 1 := by
  induction L with
  | nil => simp [ins]
  | cons x L ih =>
    rw [ins]
    split
    · simp only [List.length_cons]; omega
    · split <;> simp only [List.length_cons] <;> omega
theorem install_length (L : List Ent) (e : Ent) : (installL L e).length ≤ L.length + 1 := by
  unfold installL
  split
  · split
    · exact ins_length L e
    · omega
  · simp
theorem valid_ext {L M : List Ent} (hL : validB L = true) (hM : validB M = true) (h : ∀ b, lookE L b = lookE M b) : L = M := asc_ext (valid_iff.1 hL).2 (valid_iff.1 hM).2 h
theorem best_comm {o : Option Ent} {a b : Ent} (h : a.version ≠ b.version) : best (best o a) b = best (best o b) a := by
  cases o with
  | none =>
    simp only [best]
    by_cases h1 : a.version < b.version
    · rw [if_pos h1, if_neg (by omega)]
    · rw [if_neg h1, if_pos (by omega)]
  | some x =>
    have e1 : best (some x) a = if x.version < a.version then some a else some x := rfl
    have e2 : best (some x) b = if x.version < b.version then some b else some x := rfl
    rw [e1, e2]
    by_cases h1 : x.version < a.version <;> by_cases h2 : x.version < b.version
    · rw [if_pos h1, if_pos h2]
      show (if a.version < b.version then some b else some a) = (if b.version < a.version then some a else some b)
      by_cases h3 : a.version < b.version
      · rw [if_pos h3, if_neg (by omega)]
      · rw [if_neg h3, if_pos (by omega)]
    · rw [if_pos h1, if_neg h2]
      show (if a.version < b.version then some b else some a) = (if x.version < a.version then some a else some x)
      rw [if_neg (by omega), if_pos h1]
    · rw [if_neg h1, if_pos h2]
      show (if x.version < b.version then some b else some x) = (if b.version < a.version then some a else some b)
      rw [if_pos h2, if_neg (by omega)]
    · rw [if_neg h1, if_neg h2]
      show (if x.version < b.version then some b else some x) = (if x.version < a.version then some a else some x)
      rw [if_neg h2, if_neg h1]
/-- two installs in either order -/
theorem install_comm {L : List Ent} {a b : Ent} (h : validB L = true) (ha : okE a = true) (hb : okE b = true) (hab : ¬ (a.block = b.block ∧ a.version = b.version)) : installL (installL L a) b = installL (installL L b) a := by
  refine valid_ext (valid_install (valid_install h)) (valid_install (valid_install h)) fun c => ?_
  rw [look_install (valid_install h) hb, look_install h ha, look_install (valid_install h) ha, look_install h hb]
  by_cases h1 : a.block = c <;> by_cases h2 : b.block = c <;> simp only [h1, h2, if_true, if_false]
  exact best_comm fun hv => hab ⟨by omega, hv⟩
theorem install_some {L : List Ent} {a : Ent} (h : validB L = true) (ha : okE a = true) : ∃ x, lookE (installL L a) a.block = some x := by
  rw [look_install h ha, if_pos rfl]
  unfold best
  cases lookE L a.block with
  | none => exact ⟨_, rfl⟩
  | some x =>
    simp only
    split
    · exact ⟨_, rfl⟩
    · exact ⟨_, rfl⟩
theorem look_nonempty {L : List Ent} {b : Int} {x : Ent} (h : lookE L b = some x) : L ≠ [] := by
  rintro rfl
  cases h
theorem install_nonempty {L : List Ent} {a b : Ent} (h : validB L = true) (hb : okE b = true) : installL (installL L a) b ≠ [] := by
  obtain ⟨x, hx⟩ := install_some (valid_install (e := a) h) hb
  exact look_nonempty hx
/-! relocating -/
theorem find_look {L : List Ent} (h : validB L = true) (b : Int) : findE L b = lookE L b := by unfold findE; rw [if_pos h]
theorem moves_iff {L : List Ent} {b v fz fo tz to m : Int} {x : Ent} (h : validB L = true) (hx : lookE L b = some x) : moves L b v fz fo tz to m = true ↔ x.version = v ∧ x.zone = fz ∧ x.offset = fo ∧ 0 ≤ tz ∧ 0 ≤ to ∧ 0 ≤ m ∧ m ≤ 255 := by
  unfold moves
  rw [find_look h, hx]
  simp [Bool.and_eq_true, and_assoc]
theorem reloc_moved {L : List Ent} {b v fz fo tz to m : Int} {x : Ent} (h : validB L = true) (hx : lookE L b = some x) (hm : moves L b v fz fo tz to m = true) : relocL L b v fz fo tz to m = ins L (moved x tz to m) := by
  unfold relocL
  rw [if_pos h, if_pos hm, hx]
theorem reloc_same {L : List Ent} {b v fz fo tz to m : Int} (h : validB L = true) (hm : moves L b v fz fo tz to m = false) : relocL L b v fz fo tz to m = L := by
  unfold relocL
  rw [if_pos h, if_neg (by rw [hm]; decide)]
theorem ok_moved {x : Ent} {tz to m : Int} (h : okE x = true) (h1 : 0 ≤ tz) (h2 : 0 ≤ to) (h3 : 0 ≤ m) (h4 : m ≤ 255) : okE (moved x tz to m) = true := by
  unfold okE moved at *
  simp only [Bool.and_eq_true, Bool.or_eq_true, decide_eq_true_eq] at *
  omega
theorem valid_reloc {L : List Ent} {b v fz fo tz to m : Int} (h : validB L = true) : validB (relocL L b v fz fo tz to m) = true := by
  cases hm : moves L b v fz fo tz to m
  · rw [reloc_same h hm]; exact h
  · cases hx : lookE L b with
    | none =>
      unfold moves at hm
      rw [find_look h, hx] at hm
      cases hm
    | some x =>
      rw [reloc_moved h hx hm]
      have h2 := (moves_iff h hx).1 hm
      exact valid_ins h (ok_moved ((valid_iff.1 h).1 x (look_mem hx)) h2.2.2.2.1 h2.2.2.2.2.1 h2.2.2.2.2.2.1 h2.2.2.2.2.2.2)
theorem look_reloc {L : List Ent} {b v fz fo tz to m : Int} {x : Ent} (h : validB L = true) (hx : lookE L b = some x) (hm : moves L b v fz fo tz to m = true) (c : Int) : lookE (relocL L b v fz fo tz to m) c = if b = c then some (moved x tz to m) else lookE L c := by
  rw [reloc_moved h hx hm, look_ins]
  have : (moved x tz to m).block = b := show x.block = b from look_block hx
  rw [this]
theorem reloc_length (L : List Ent) (b v fz fo tz to m : Int) : (relocL L b v fz fo tz to m).length ≤ L.length + 1 := by
  unfold relocL
  split
  · split
    · split
      · omega
      · exact ins_length _ _
    · omega
  · simp
/-- a relocation and an install of different blocks in either order -/
theorem reloc_install {L : List Ent} {b v fz fo tz to m : Int} {x e : Ent} (h : validB L = true) (he : okE e = true) (hx : lookE L b = some x) (hb : b ≠ e.block) (hm : moves L b v fz fo tz to m = true) :
    moves (installL L e) b v fz fo tz to m = true ∧ installL (relocL L b v fz fo tz to m) e = relocL (installL L e) b v fz fo tz to m := by
  have hx2 : lookE (installL L e) b = some x := by rw [look_install h he, if_neg (fun h => hb h.symm)]; exact hx
  have hm2 : moves (installL L e) b v fz fo tz to m = true := (moves_iff (valid_install h) hx2).2 ((moves_iff h hx).1 hm)
  refine ⟨hm2, valid_ext (valid_install (valid_reloc h)) (valid_reloc (valid_install h)) fun c => ?_⟩
  rw [look_install (valid_reloc h) he, look_reloc h hx hm, look_reloc (valid_install h) hx2 hm2, look_install h he]
  by_cases h1 : b = c
  · rw [if_neg (by omega), if_pos h1, if_pos h1]
  · rw [if_neg h1, if_neg h1]
/-! dropping -/
theorem stay_eq {L : List Ent} {c : Int} (h : validB L = true) : stayL L c = L.filter (fun e => !gone c e) := by unfold stayL; rw [if_pos h]
theorem gone_eq {L : List Ent} {c : Int} (h : validB L = true) : goneL L c = L.filter (gone c) := by unfold goneL; rw [if_pos h]
theorem valid_stay {L : List Ent} {c : Int} (h : validB L = true) : validB (stayL L c) = true := by rw [stay_eq h]; exact valid_filter _ h
theorem stay_gone {L : List Ent} {c : Int} (h : validB L = true) : (stayL L c).length + (goneL L c).length = L.length := by
  rw [stay_eq h, gone_eq h]
  induction L with
  | nil => rfl
  | cons x L ih =>
    have ih2 : (L.filter (fun e => !gone c e)).length + (L.filter (gone c)).length = L.length := by
      have hs : validB L = true := by
        obtain ⟨h1, h2⟩ := valid_iff.1 h
        exact valid_iff.2 ⟨fun e he => h1 e (List.mem_cons_of_mem _ he), (List.pairwise_cons.1 h2).2⟩
      exact ih hs
    rw [List.filter_cons, List.filter_cons]
    cases gone c x <;> simp only [Bool.not_false, Bool.not_true, if_true, List.length_cons] <;> simp <;> omega
theorem stay_again {L : List Ent} {c : Int} (h : validB L = true) : stayL (stayL L c) c = stayL L c ∧ goneL (stayL L c) c = [] := by
  rw [stay_eq (valid_stay h), gone_eq (valid_stay h), stay_eq h]
  constructor
  · rw [List.filter_filter]
    congr 1
    funext e
    cases gone c e <;> rfl
  · rw [List.filter_filter, List.filter_eq_nil_iff]
    intro e _
    cases gone c e <;> decide
theorem stay_two {L : List Ent} {p q : Int} (h : validB L = true) : stayL (stayL L p) q = stayL L (max p q) := by
  rw [stay_eq (valid_stay h), stay_eq h, stay_eq h, List.filter_filter]
  congr 1
  funext e
  unfold gone
  by_cases hk : e.kind = 2
  · simp only [hk, decide_true, Bool.true_and]
    by_cases h1 : e.version < p <;> by_cases h2 : e.version < q
    · simp [h1, h2, show e.version < max p q by omega]
    · simp [h1, h2, show e.version < max p q by omega]
    · simp [h1, h2, show e.version < max p q by omega]
    · simp [h1, h2, show ¬ e.version < max p q by omega]
  · simp [hk]
theorem find_stay {L : List Ent} {c : Int} (h : validB L = true) {x : Ent} (hx : x ∈ L) : (findE (stayL L c) x.block).isSome = !gone c x := by
  rw [find_look (valid_stay h), stay_eq h, look_filter _ (valid_iff.1 h).2, look_asc (valid_iff.1 h).2 hx]
  cases hg : gone c x <;> simp [Option.filter, hg]
end Go.Proofs.Ytljdepnhhngbeaa.EntMath
