
/- The append of one element to a list that is only read and that is full ('append(l[:n:n], e)'): the result is a list of the walk's own. -/
import Derived.Test.YtljdepnhhngbeaaBaseEnv
import Derived.ArgAppend
namespace Go.Proofs.Ytljdepnhhngbeaa.Env
open Go.RowKit Plan Ents Rws
section
variable {w W : World} {T : List Thing} {α : Type} {R : Row α}
theorem Env.app_full (hR : R.Ok) {o : Oper} {a : Act} {K' : Act → World → Prop} {Q : Exit → Act → World → Prop} (s x : Operand)
    (ho : o.op = .call { callee := .builtin .append, args := #[s, x], argTypes := #[R.st, R.st] }) (K : Env w W T) {F : Nat → Prop} {sa : Option Addr} {n c0 : Nat} {L : List α} (hl : TList R W F sa n c0 L) (hn : n ≤ 900000)
    (hs : a.eval s = .slice sa n n) (j : Nat) {g : Nat} {e : α} {fr : Nat × Nat} (hj : T[j]? = some (.box g (.cells (R.c e).toArray R.et fr))) (hx : a.eval x = slv g 1 1)
    (h : ∀ g' c' W', Env w W' (lst R (slv g' (n + 1) c') (n + 1) (L ++ [e]) :: T) → (∀ F, Keep w F W T W' (lst R (slv g' (n + 1) c') (n + 1) (L ++ [e]) :: T)) → K' (a.put o.dst (slv g' (n + 1) c')) W') : o.wp Try.prog a W K' Q := by
  obtain ⟨i1, hi1, hy0, hy1, hy2⟩ := info_parts hR.info
  have hlen := hl.length
  have hsm := hR.small
  have hb2 : (n + 1) * R.wide ≤ 140737488355328 := Nat.le_trans (Nat.mul_le_mul (show n + 1 ≤ 1000000 by omega) hsm) (by decide)
  have hnew := list_one (R := R) (K.get j hj)
  have fin : ∀ v' W', W'.ownsRow W.heap.size R.et R.sz v' (n + 1) (R.all L ++ R.all [e]) → W.grownBy W' none → K' (a.put o.dst v') W' := by
    intro v' W' r1 r2
    rw [← all_append] at r1
    obtain ⟨g', c', rfl, hg1, hg2⟩ := owns_some r1 (by omega)
    have hbel : Below W.heap.size W W' := (Below.refl _ _).grown r2 (Nat.le_refl _) (fun k hk => by cases hk)
    have hfr : ∀ b, (lst R (slv g' (n + 1) c') (n + 1) (L ++ [e])).has b → W.heap.size ≤ b := fun b hb => by
      obtain rfl := Option.some.inj hb
      exact hg1
    refine h g' c' W' (K.cons hbel (owns_mono r1 K.hb.size) hfr) (fun F => ⟨hbel.size, fun b hb => ⟨hb.1, Nat.lt_of_lt_of_le hb.2.1 hbel.size, fun x hx e9 => ?_⟩, fun b hb => hbel.block b hb.2.1⟩)
    rcases List.mem_cons.1 hx with rfl | hx
    · have := hfr b e9
      have := hb.2.1
      omega
    · exact hb.2.2 x hx e9
  cases sa with
  | some b =>
    obtain ⟨v', w', hrun, r1, r2⟩ := run_append_arg_grows (P := Try.prog) W R.st o.type R.et i1 _ R.sz R.wide hR.und hi1 hy0 hy1 hy2 hR.zs hR.pos b n n (R.all L) (by rw [all_length hR, hlen]) hl.news ⟨g, 0, none⟩ 1 1 (R.all [e]) (by rw [all_length hR]; rfl) hnew (by omega) (by unfold maxLen; omega) hb2
    unfold Oper.wp
    simp [execOp, ho, resolve, invoke, builtin, hs, hx, hrun, Result.andThen]
    exact fin _ _ r1 r2
  | none =>
    obtain ⟨rfl, rfl, rfl⟩ := hl.none
    obtain ⟨v', w', hrun, r1, r2, _⟩ := run_append_own (P := Try.prog) W W.heap.size R.st o.type R.et i1 _ R.sz R.wide hR.und hi1 hy0 hy1 hy2 hR.zs hR.pos (.slice none 0 0) 0 [] (World.ownsRow_nil W _ R.et R.sz) ⟨g, 0, none⟩ 1 1 (R.all [e]) (by rw [all_length hR]; rfl) hnew (all_flat hR _) (by unfold maxLen; omega) hb2 (Nat.le_refl _)
    unfold Oper.wp
    simp [execOp, ho, resolve, invoke, builtin, hs, hx, hrun, Result.andThen]
    exact fin _ _ r1 r2
end
end Go.Proofs.Ytljdepnhhngbeaa.Env
