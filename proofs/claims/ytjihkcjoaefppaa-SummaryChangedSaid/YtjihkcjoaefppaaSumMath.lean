/- Summaries of sectors as plain lists: which error, and which record, nothing of the program. -/
import Derived.Test.YtjihkcjoaefppaaRecMath
namespace Go.Proofs.Ytjihkcjoaefppaa.SumMath
open RecMath CrcMath

/-- the error of one sector -/
def secE (s : List UInt8) : Int := if decE s = 0 then (if (dec s).kind = 1 ∨ (dec s).kind = 2 then 0 else 3) else decE s
/-- the first error of sectors -/
def errL : List (List UInt8) → Int
  | [] => 0
  | s :: r => if secE s = 0 then errL r else secE s
def leastL (l : List (List UInt8)) : Int := l.foldl (fun a s => min a (dec s).version) 1099511627776
def greatL (l : List (List UInt8)) : Int := l.foldl (fun a s => max a (dec s).version) 0
def allL (l : List (List UInt8)) : List UInt8 := (l.map fun s => s.take 36).flatten
def makeE (l : List (List UInt8)) : Int := if l.length = 0 ∨ 64 < l.length then 19 else errL l
def makeR (l : List (List UInt8)) : Rec := if makeE l = 0 then ⟨3, l.length, greatL l, 0, CodecMath.putL (leastL l) 6 ++ CodecMath.putL (crc 0 (allL l) : Nat) 4⟩ else Rec.zero
/-- is it the summary of these sectors? -/
def fits (r : Rec) (l : List (List UInt8)) : Bool := (makeE l == 0) && ((makeR l).kind == r.kind && ((makeR l).block == r.block && ((makeR l).version == r.version && ((makeR l).move == r.move && (makeR l).payload == r.payload))))
theorem errL_snoc : ∀ (l : List (List UInt8)) (s : List UInt8), errL l = 0 → errL (l ++ [s]) = secE s
  | [], s, _ => by simp only [List.nil_append, errL]; split <;> simp_all
  | a :: r, s, h => by
    simp only [errL] at h
    simp only [List.cons_append, errL]
    split at h
    · rename_i h1
      rw [if_pos h1]; exact errL_snoc r s h
    · rename_i h1; exact absurd h h1
theorem errL_more : ∀ (l r : List (List UInt8)), errL l ≠ 0 → errL (l ++ r) = errL l
  | [], r, h => absurd rfl h
  | a :: l, r, h => by
    simp only [errL] at h ⊢
    simp only [List.cons_append, errL]
    split
    · rename_i h1; rw [if_pos h1] at h; exact errL_more l r h
    · rfl
theorem leastL_snoc (l : List (List UInt8)) (s : List UInt8) : leastL (l ++ [s]) = min (leastL l) (dec s).version := by simp [leastL, List.foldl_append]
theorem greatL_snoc (l : List (List UInt8)) (s : List UInt8) : greatL (l ++ [s]) = max (greatL l) (dec s).version := by simp [greatL, List.foldl_append]
theorem allL_snoc (l : List (List UInt8)) (s : List UInt8) : allL (l ++ [s]) = allL l ++ s.take 36 := by simp [allL]
theorem allL_length : ∀ (l : List (List UInt8)), (allL l).length ≤ 36 * l.length
  | [] => by simp [allL]
  | a :: r => by
    have h := allL_length r
    simp only [allL] at h
    simp only [allL, List.map_cons, List.flatten_cons, List.length_append, List.length_take, List.length_cons]
    omega
theorem sec_ok {s : List UInt8} (h : secE s = 0) : decE s = 0 ∧ ((dec s).kind = 1 ∨ (dec s).kind = 2) := by
  unfold secE at h
  split at h
  · rename_i h1
    split at h
    · rename_i h2; exact ⟨h1, h2⟩
    · omega
  · rename_i h1; exact absurd h h1
/-- versions of sectors that are decoded lie in their range -/
theorem ver_range {s : List UInt8} (h : secE s = 0) : 0 ≤ (dec s).version ∧ (dec s).version ≤ 1099511627776 := by
  have hc := (enc_dec (sec_ok h).1).1
  have := check_ok hc
  omega
theorem range_all : ∀ (l : List (List UInt8)) (a b : Int), errL l = 0 → 0 ≤ a → a ≤ 1099511627776 → 0 ≤ b → b ≤ 1099511627776 →
    (0 ≤ l.foldl (fun a s => min a (dec s).version) a ∧ l.foldl (fun a s => min a (dec s).version) a ≤ 1099511627776) ∧ (0 ≤ l.foldl (fun a s => max a (dec s).version) b ∧ l.foldl (fun a s => max a (dec s).version) b ≤ 1099511627776)
  | [], a, b, _, h1, h2, h3, h4 => ⟨⟨h1, h2⟩, ⟨h3, h4⟩⟩
  | s :: r, a, b, h, h1, h2, h3, h4 => by
    simp only [errL] at h
    split at h
    · rename_i hs
      have hv := ver_range hs
      simp only [List.foldl_cons]
      exact range_all r _ _ h (by omega) (by omega) (by omega) (by omega)
    · rename_i hs; exact absurd h hs
theorem least_range {l : List (List UInt8)} (h : errL l = 0) : 0 ≤ leastL l ∧ leastL l ≤ 1099511627776 := (range_all l _ 0 h (by decide) (by decide) (by decide) (by decide)).1
theorem great_range {l : List (List UInt8)} (h : errL l = 0) : 0 ≤ greatL l ∧ greatL l ≤ 1099511627776 := (range_all l 0 _ h (by decide) (by decide) (by decide) (by decide)).2
theorem make_err {l : List (List UInt8)} {k : Nat} (h0 : 0 < l.length) (h64 : l.length ≤ 64) (he : errL (l.take k) ≠ 0) : makeE l = errL (l.take k) ∧ makeR l = Rec.zero := by
  have h : errL l = errL (l.take k) := by
    have := errL_more (l.take k) (l.drop k) he
    rwa [List.take_append_drop] at this
  have hm : makeE l = errL l := if_neg (by omega)
  refine ⟨hm.trans h, ?_⟩
  unfold makeR
  rw [hm, h, if_neg he]
theorem make_ok {l : List (List UInt8)} (h0 : 0 < l.length) (h64 : l.length ≤ 64) (he : errL l = 0) :
    makeE l = 0 ∧ makeR l = ⟨3, l.length, greatL l, 0, CodecMath.putL (leastL l) 6 ++ CodecMath.putL (crc 0 (allL l) : Nat) 4⟩ := by
  have hm : makeE l = errL l := if_neg (by omega)
  refine ⟨hm.trans he, ?_⟩
  unfold makeR
  rw [hm, he, if_pos rfl]
theorem sec_len {s : List UInt8} (h : decE s = 0) : s.length = 40 := by
  have := enc_dec h
  rw [← this.2.1]
  exact enc_length this.1
end Go.Proofs.Ytjihkcjoaefppaa.SumMath
