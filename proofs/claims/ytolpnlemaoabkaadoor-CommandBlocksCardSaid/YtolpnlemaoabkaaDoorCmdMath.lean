
/- Commands: what layer 15 of the document says of them. Plain mathematics. -/
namespace Go.Proofs.YtolpnlemaoabkaaDoor.CmdMath
/-- the error of a command of kind k on block b with n bytes, of a device of nb blocks -/
def checkC (nb k b : Int) (n : Nat) : Int :=
  if k < 1 ∨ 4 < k then 3
  else if (k = 4 ∧ b ≠ 0) ∨ (k ≠ 4 ∧ (b < 0 ∨ nb ≤ b)) then 1
  else if (k = 2 ∧ n ≠ 16) ∨ (k ≠ 2 ∧ n ≠ 0) then 2
  else 0
def kindC (k : Int) : ByteArray :=
  if k = 1 then ⟨#[114, 101, 97, 100]⟩ else if k = 2 then ⟨#[119, 114, 105, 116, 101]⟩ else if k = 3 then ⟨#[116, 114, 105, 109]⟩ else if k = 4 then ⟨#[102, 108, 117, 115, 104]⟩ else ⟨#[]⟩
def zeroC : ByteArray := ⟨#[0, 0, 0, 0, 0, 0, 0, 0, 0, 0, 0, 0, 0, 0, 0, 0]⟩
theorem check_more {nb m k b : Int} {n : Nat} (hm : 0 ≤ m) (h : checkC nb k b n = 0) : checkC (nb + m) k b n = 0 := by
  unfold checkC at h ⊢
  split at h
  · omega
  · rename_i h1
    rw [if_neg h1]
    split at h
    · omega
    · rename_i h2
      rw [if_neg (by omega)]
      exact h
end Go.Proofs.YtolpnlemaoabkaaDoor.CmdMath
