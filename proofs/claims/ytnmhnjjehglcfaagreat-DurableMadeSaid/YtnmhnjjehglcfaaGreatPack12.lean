/- Texts that belong together, part 12. -/
import Derived.Test.YtnmhnjjehglcfaaGreatPack11
import Derived.Deep.Cut
import Derived.Deep.DeepCutAuto

/- Lists of strings, of commands and of results in memory. -/
namespace Go.Proofs.YtnmhnjjehglcfaaGreat.Ents
open Go.RowKit Plan ModMath CmdMath Rws
def SR : Row ByteArray := ⟨9, 22, 1, 16, .string ⟨#[]⟩, fun s => [.string s]⟩
theorem srOk : SR.Ok := ⟨fun _ => rfl, fun e u hu => by simp only [SR, List.mem_cons, List.not_mem_nil, or_false] at hu; subst hu; rfl, by decide, by kernel_rfl, rfl, Tryz.underlying22, by decide⟩
def CR : Row Cmd := ⟨51, 143, 3, 32, .agg #[.int .i64 0, .int .i64 0, .string ⟨#[]⟩], fun x => [.int .i64 x.kind, .int .i64 x.block, .string x.data]⟩
def OR : Row Res := ⟨53, 144, 2, 24, .agg #[.int .i64 0, .string ⟨#[]⟩], fun x => [.int .i64 x.err, .string x.data]⟩
abbrev SList := TList SR
abbrev CList' := TList CR
abbrev OList := TList OR
abbrev resV (x : Res) : Value := .agg #[.int .i64 x.err, .string x.data]
section
variable {w : World} {F : Nat → Prop} {a : Option Addr} {n c : Nat}
theorem str_at {L : List ByteArray} (h : SList w F a n c L) (i : Nat) (hi : i < n) : ∃ x s, a = some x ∧ L[i]? = some s ∧ w.cell? (x.add i) = some (.string s) := by
  obtain ⟨x, s, hx, hs, hc⟩ := h.at' srOk i hi
  have := hc 0 _ rfl
  rw [show i * SR.sz + 0 = i from Nat.mul_one i] at this
  exact ⟨x, s, hx, hs, this⟩
end
end Go.Proofs.YtnmhnjjehglcfaaGreat.Ents

/- The walks of the document's fits and Before. -/
namespace Go.Proofs.YtnmhnjjehglcfaaGreat.Ents
open Go.RowKit Plan HisMath Rws Env LayMath CmdMath
theorem hs_cells2 {w : World} {g : Nat} {a b : Value} {t : TypeId} {fr : Nat × Nat} (h : w.heap[g]? = some (.cells #[a, b] t fr)) : w.cell? ⟨g, 0, none⟩ = some a ∧ w.cell? ⟨g, 1, none⟩ = some b := ⟨cell_of_row _ _ 0 _ _ _ h, cell_of_row _ _ 1 _ _ _ h⟩
set_option maxHeartbeats 8000000 in
set_option maxRecDepth 20000 in
theorem refFits_any (k b e : Int) (s x : ByteArray) (w : World) :
    Calls Tryz.prog 130 #[cmdV k b s, .agg #[.int .i64 e, .string x]] w fun r w' => r = .returned (.bool (fitsB k e x.size)) ∧ Below w.heap.size w w' := by
  have K := ((Env.start w).al (cmdRow k b s)).al (.cells #[.int .i64 e, .string x] 53)
  simp only [World.size_alloc] at K
  have hcases : (e = 0 ∧ k = 1) ∨ (e = 0 ∧ k ≠ 1) ∨ e = 7 ∨ e = 1 ∨ e = 2 ∨ e = 3 ∨ e = 12 ∨ (e ≠ 0 ∧ e ≠ 7 ∧ e ≠ 1 ∧ e ≠ 2 ∧ e ≠ 3 ∧ e ≠ 12) := by omega
  rcases hcases with ⟨rfl, rfl⟩ | ⟨rfl, hk⟩ | rfl | rfl | rfl | rfl | rfl | ⟨h0, h7, h1, h2, h3, h12⟩
  · by_cases hz : x.size = 16
    · have d5 : ((x.size : Int) == 16) = true := by simp [hz]
      have hf : fitsB 1 0 x.size = true := by simp [fitsB, hz]
      rw [hf]
      clear hf
      go_enter Tryz.func130, Tryz.ntmps130
      obtain ⟨c0, c1, c2⟩ := cmd_cells (K.get 1 rfl)
      obtain ⟨q0, q1⟩ := hs_cells2 (K.get 0 rfl)
      go_wp2_with fail
      go_ret
      exact ⟨rfl, K.hb⟩
    · have d5 : ((x.size : Int) == 16) = false := by simp; omega
      have hf : fitsB 1 0 x.size = false := by simp [fitsB, hz]
      rw [hf]
      clear hf
      go_enter Tryz.func130, Tryz.ntmps130
      obtain ⟨c0, c1, c2⟩ := cmd_cells (K.get 1 rfl)
      obtain ⟨q0, q1⟩ := hs_cells2 (K.get 0 rfl)
      go_wp2_with fail
      go_ret
      exact ⟨rfl, K.hb⟩
  · have d1 : (k == 1) = false := by simpa using hk
    have d2 : (k != 1) = true := by simpa using hk
    by_cases hz : x.size = 0
    · have hf : fitsB k 0 x.size = true := by simp [fitsB, hz, hk]
      obtain rfl := bytes_none hz
      rw [hf]
      clear hf
      go_enter Tryz.func130, Tryz.ntmps130
      obtain ⟨c0, c1, c2⟩ := cmd_cells (K.get 1 rfl)
      obtain ⟨q0, q1⟩ := hs_cells2 (K.get 0 rfl)
      go_wp2_with fail
      go_ret
      exact ⟨rfl, K.hb⟩
    · have hf : fitsB k 0 x.size = false := by simp [fitsB, hz, hk]
      have hem := bytes_some hz
      rw [hf]
      clear hf
      go_enter Tryz.func130, Tryz.ntmps130
      obtain ⟨c0, c1, c2⟩ := cmd_cells (K.get 1 rfl)
      obtain ⟨q0, q1⟩ := hs_cells2 (K.get 0 rfl)
      go_wp2_with fail
      go_ret
      exact ⟨rfl, K.hb⟩
  · by_cases hz : x.size = 0
    · have hf : fitsB k 7 x.size = true := by simp [fitsB, hz]
      obtain rfl := bytes_none hz
      rw [hf]
      clear hf
      go_enter Tryz.func130, Tryz.ntmps130
      obtain ⟨c0, c1, c2⟩ := cmd_cells (K.get 1 rfl)
      obtain ⟨q0, q1⟩ := hs_cells2 (K.get 0 rfl)
      go_wp2_with fail
      go_ret
      exact ⟨rfl, K.hb⟩
    · have hf : fitsB k 7 x.size = false := by simp [fitsB, hz]
      have hem := bytes_some hz
      rw [hf]
      clear hf
      go_enter Tryz.func130, Tryz.ntmps130
      obtain ⟨c0, c1, c2⟩ := cmd_cells (K.get 1 rfl)
      obtain ⟨q0, q1⟩ := hs_cells2 (K.get 0 rfl)
      go_wp2_with fail
      go_ret
      exact ⟨rfl, K.hb⟩
  · by_cases hz : x.size = 0
    · have hf : fitsB k 1 x.size = true := by simp [fitsB, hz]
      obtain rfl := bytes_none hz
      rw [hf]
      clear hf
      go_enter Tryz.func130, Tryz.ntmps130
      obtain ⟨c0, c1, c2⟩ := cmd_cells (K.get 1 rfl)
      obtain ⟨q0, q1⟩ := hs_cells2 (K.get 0 rfl)
      go_wp2_with fail
      go_ret
      exact ⟨rfl, K.hb⟩
    · have hf : fitsB k 1 x.size = false := by simp [fitsB, hz]
      have hem := bytes_some hz
      rw [hf]
      clear hf
      go_enter Tryz.func130, Tryz.ntmps130
      obtain ⟨c0, c1, c2⟩ := cmd_cells (K.get 1 rfl)
      obtain ⟨q0, q1⟩ := hs_cells2 (K.get 0 rfl)
      go_wp2_with fail
      go_ret
      exact ⟨rfl, K.hb⟩
  · by_cases hz : x.size = 0
    · have hf : fitsB k 2 x.size = true := by simp [fitsB, hz]
      obtain rfl := bytes_none hz
      rw [hf]
      clear hf
      go_enter Tryz.func130, Tryz.ntmps130
      obtain ⟨c0, c1, c2⟩ := cmd_cells (K.get 1 rfl)
      obtain ⟨q0, q1⟩ := hs_cells2 (K.get 0 rfl)
      go_wp2_with fail
      go_ret
      exact ⟨rfl, K.hb⟩
    · have hf : fitsB k 2 x.size = false := by simp [fitsB, hz]
      have hem := bytes_some hz
      rw [hf]
      clear hf
      go_enter Tryz.func130, Tryz.ntmps130
      obtain ⟨c0, c1, c2⟩ := cmd_cells (K.get 1 rfl)
      obtain ⟨q0, q1⟩ := hs_cells2 (K.get 0 rfl)
      go_wp2_with fail
      go_ret
      exact ⟨rfl, K.hb⟩
  · by_cases hz : x.size = 0
    · have hf : fitsB k 3 x.size = true := by simp [fitsB, hz]
      obtain rfl := bytes_none hz
      rw [hf]
      clear hf
      go_enter Tryz.func130, Tryz.ntmps130
      obtain ⟨c0, c1, c2⟩ := cmd_cells (K.get 1 rfl)
      obtain ⟨q0, q1⟩ := hs_cells2 (K.get 0 rfl)
      go_wp2_with fail
      go_ret
      exact ⟨rfl, K.hb⟩
    · have hf : fitsB k 3 x.size = false := by simp [fitsB, hz]
      have hem := bytes_some hz
      rw [hf]
      clear hf
      go_enter Tryz.func130, Tryz.ntmps130
      obtain ⟨c0, c1, c2⟩ := cmd_cells (K.get 1 rfl)
      obtain ⟨q0, q1⟩ := hs_cells2 (K.get 0 rfl)
      go_wp2_with fail
      go_ret
      exact ⟨rfl, K.hb⟩
  · by_cases hz : x.size = 0
    · have hf : fitsB k 12 x.size = true := by simp [fitsB, hz]
      obtain rfl := bytes_none hz
      rw [hf]
      clear hf
      go_enter Tryz.func130, Tryz.ntmps130
      obtain ⟨c0, c1, c2⟩ := cmd_cells (K.get 1 rfl)
      obtain ⟨q0, q1⟩ := hs_cells2 (K.get 0 rfl)
      go_wp2_with fail
      go_ret
      exact ⟨rfl, K.hb⟩
    · have hf : fitsB k 12 x.size = false := by simp [fitsB, hz]
      have hem := bytes_some hz
      rw [hf]
      clear hf
      go_enter Tryz.func130, Tryz.ntmps130
      obtain ⟨c0, c1, c2⟩ := cmd_cells (K.get 1 rfl)
      obtain ⟨q0, q1⟩ := hs_cells2 (K.get 0 rfl)
      go_wp2_with fail
      go_ret
      exact ⟨rfl, K.hb⟩
  · have hf : fitsB k e x.size = false := by simp [fitsB, h0, h7, h1, h2, h3, h12]
    have b0 : (e == 0) = false := by simpa using h0
    have b7 : (e == 7) = false := by simpa using h7
    have b1 : (e == 1) = false := by simpa using h1
    have b2 : (e == 2) = false := by simpa using h2
    have b3 : (e == 3) = false := by simpa using h3
    have b12 : (e == 12) = false := by simpa using h12
    rw [hf]
    clear hf
    go_enter Tryz.func130, Tryz.ntmps130
    obtain ⟨c0, c1, c2⟩ := cmd_cells (K.get 1 rfl)
    obtain ⟨q0, q1⟩ := hs_cells2 (K.get 0 rfl)
    go_wp2_with fail
    go_ret
    exact ⟨rfl, K.hb⟩
set_option maxHeartbeats 8000000 in
set_option maxRecDepth 20000 in
theorem refBefore_any (F : Nat → Prop) (L : List Ev) (a : Option Addr) (n c : Nat) (s t : Int) (w : World) (hl : VList w F a n c L) :
    Calls Tryz.prog 44 #[.slice a n c, .int .i64 s, .int .i64 t] w fun r w' => r = .returned (.bool (beforeB L s t)) ∧ Below w.heap.size w w' := by
  have HR := Lib.hid (fun W (h : Below w.heap.size w W) => refReturned_any _ L a n c s W (hl.same h))
  have HI := Lib.hid (fun W (h : Below w.heap.size w W) => refInvoked_any _ L a n c t W (hl.same h))
  have hb := Below.refl w.heap.size w
  unfold beforeB
  generalize retI L s = i at *
  generalize invI L t = k at *
  clear hl
  go_enter Tryz.func44, Tryz.ntmps44
  go_upto_region 2 with (first
    | (go_at_call 76; ((with_reducible refine (HR.out _ hb).mono ?_); rintro r9 w1 ⟨rfl, h9⟩; replace hb := hb.trans (h9.mono hb.size); clear h9))
    | (go_at_call 75; ((with_reducible refine (HI.out _ hb).mono ?_); rintro r9 w2 ⟨rfl, h9⟩; replace hb := hb.trans (h9.mono hb.size); clear h9)))
  clear HR HI
  by_cases h1 : 0 ≤ i
  · by_cases h2 : 0 ≤ k
    · by_cases h3 : i < k
      · go_wp2_with fail
        go_ret
        exact ⟨by simp [h1, h2, h3], hb⟩
      · go_wp2_with fail
        go_ret
        exact ⟨by simp; omega, hb⟩
    · go_wp2_with fail
      go_ret
      exact ⟨by simp; omega, hb⟩
  · go_wp2_with fail
    go_ret
    exact ⟨by simp; omega, hb⟩
end Go.Proofs.YtnmhnjjehglcfaaGreat.Ents

/- The walk of the document's right. -/
namespace Go.Proofs.YtnmhnjjehglcfaaGreat.HisMath
def rightB (L : List Ev) (x : Ev) : Bool :=
  if x.queue < 0 ∨ 4 ≤ x.queue ∨ x.serial < 0 then false
  else if x.ret = false then decide (invI L x.serial < 0) && decide (retI L x.serial < 0) && (decide (x.err = 0) && decide (x.res.size = 0))
  else match (if 0 ≤ invI L x.serial then L[(invI L x.serial).toNat]? else none) with
    | some y => decide (retI L x.serial < 0) && decide (x.queue = y.queue) && (decide (x.kind = y.kind) && decide (x.block = y.block) && decide (x.data = y.data)) && fitsB x.kind x.err x.res.size
    | none => false
end Go.Proofs.YtnmhnjjehglcfaaGreat.HisMath
namespace Go.Proofs.YtnmhnjjehglcfaaGreat.Ents
open Go.RowKit Plan HisMath Rws Env LayMath
theorem ev_cells {w : World} {g : Nat} {a b c d e f h i : Value} {t : TypeId} {fr : Nat × Nat} (hh : w.heap[g]? = some (.cells #[a, b, c, d, e, f, h, i] t fr)) : w.cell? ⟨g, 0, none⟩ = some a ∧ w.cell? ⟨g, 1, none⟩ = some b ∧ w.cell? ⟨g, 2, none⟩ = some c ∧ w.cell? ⟨g, 3, none⟩ = some d ∧ w.cell? ⟨g, 4, none⟩ = some e ∧ w.cell? ⟨g, 5, none⟩ = some f ∧ w.cell? ⟨g, 6, none⟩ = some h ∧ w.cell? ⟨g, 7, none⟩ = some i :=
  ⟨cell_of_row _ _ 0 _ _ _ hh, cell_of_row _ _ 1 _ _ _ hh, cell_of_row _ _ 2 _ _ _ hh, cell_of_row _ _ 3 _ _ _ hh, cell_of_row _ _ 4 _ _ _ hh, cell_of_row _ _ 5 _ _ _ hh, cell_of_row _ _ 6 _ _ _ hh, cell_of_row _ _ 7 _ _ _ hh⟩
set_option maxHeartbeats 8000000 in
set_option maxRecDepth 20000 in
theorem refRight_call (F : Nat → Prop) (L : List Ev) (a : Option Addr) (n c : Nat) (xq xs xk xb xe : Int) (xd xx : ByteArray) (w : World) (hl : VList w F a n c L) :
    Calls Tryz.prog 99 #[.slice a n c, evV ⟨false, xq, xs, xk, xb, xd, xe, xx⟩] w fun r w' => r = .returned (.bool (rightB L ⟨false, xq, xs, xk, xb, xd, xe, xx⟩)) ∧ Below w.heap.size w w' := by
  have HI := Lib.hid (fun W (h : Below w.heap.size w W) => refInvoked_any _ L a n c xs W (hl.same h))
  have HR := Lib.hid (fun W (h : Below w.heap.size w W) => refReturned_any _ L a n c xs W (hl.same h))
  have K := (Env.start w).al (.cells #[.bool false, .int .i64 xq, .int .i64 xs, .int .i64 xk, .int .i64 xb, .string xd, .int .i64 xe, .string xx] 55)
  clear hl
  have HV := Lib.hid (Eq.refl (rightB L ⟨false, xq, xs, xk, xb, xd, xe, xx⟩))
  generalize hv : rightB L ⟨false, xq, xs, xk, xb, xd, xe, xx⟩ = V at *
  simp only [rightB] at hv
  generalize invI L xs = i1 at *
  generalize retI L xs = r1 at *
  by_cases h0 : xq < 0 ∨ 4 ≤ xq ∨ xs < 0
  · obtain rfl : V = false := by rw [← hv, if_pos h0]
    clear hv
    have hc : xq < 0 ∨ (0 ≤ xq ∧ 4 ≤ xq) ∨ (0 ≤ xq ∧ xq < 4 ∧ xs < 0) := by omega
    rcases hc with h1 | ⟨h1, h2⟩ | ⟨h1, h2, h3⟩
    · skip
      go_enter Tryz.func99, Tryz.ntmps99
      obtain ⟨q0, q1, q2, q3, q4, q5, q6, q7⟩ := ev_cells (K.get 0 rfl)
      go_wp2_with fail
      go_ret
      exact ⟨rfl, K.hb⟩
    · skip
      go_enter Tryz.func99, Tryz.ntmps99
      obtain ⟨q0, q1, q2, q3, q4, q5, q6, q7⟩ := ev_cells (K.get 0 rfl)
      go_wp2_with fail
      go_ret
      exact ⟨rfl, K.hb⟩
    · skip
      go_enter Tryz.func99, Tryz.ntmps99
      obtain ⟨q0, q1, q2, q3, q4, q5, q6, q7⟩ := ev_cells (K.get 0 rfl)
      go_wp2_with fail
      go_ret
      exact ⟨rfl, K.hb⟩
  · rw [if_neg h0] at hv
    have g1 : 0 ≤ xq := by omega
    have g2 : xq < 4 := by omega
    have g3 : 0 ≤ xs := by omega
    clear h0
    by_cases h1 : i1 < 0
    · by_cases h2 : r1 < 0
      · by_cases h3 : xe = 0
        · subst h3
          by_cases h4 : xx.size = 0
          · obtain rfl : V = true := by rw [← hv]; simp [h1, h2, h4]
            clear hv
            obtain rfl := bytes_none h4
            go_enter Tryz.func99, Tryz.ntmps99
            obtain ⟨q0, q1, q2, q3, q4, q5, q6, q7⟩ := ev_cells (K.get 0 rfl)
            go_wp2_with (first
              | (go_at_call 75; ((with_reducible refine (HI.out _ K.hb).mono ?_); rintro r9 w1 ⟨rfl, h9⟩; replace K := K.on h9; clear h9; obtain ⟨q0, q1, q2, q3, q4, q5, q6, q7⟩ := ev_cells (K.get 0 rfl)))
              | (go_at_call 76; ((with_reducible refine (HR.out _ K.hb).mono ?_); rintro r9 w1 ⟨rfl, h9⟩; replace K := K.on h9; clear h9; obtain ⟨q0, q1, q2, q3, q4, q5, q6, q7⟩ := ev_cells (K.get 0 rfl))))
            go_ret
            exact ⟨rfl, K.hb⟩
          · obtain rfl : V = false := by rw [← hv]; simp [h4]
            clear hv
            have hem := bytes_some h4
            go_enter Tryz.func99, Tryz.ntmps99
            obtain ⟨q0, q1, q2, q3, q4, q5, q6, q7⟩ := ev_cells (K.get 0 rfl)
            go_wp2_with (first
              | (go_at_call 75; ((with_reducible refine (HI.out _ K.hb).mono ?_); rintro r9 w1 ⟨rfl, h9⟩; replace K := K.on h9; clear h9; obtain ⟨q0, q1, q2, q3, q4, q5, q6, q7⟩ := ev_cells (K.get 0 rfl)))
              | (go_at_call 76; ((with_reducible refine (HR.out _ K.hb).mono ?_); rintro r9 w1 ⟨rfl, h9⟩; replace K := K.on h9; clear h9; obtain ⟨q0, q1, q2, q3, q4, q5, q6, q7⟩ := ev_cells (K.get 0 rfl))))
            go_ret
            exact ⟨rfl, K.hb⟩
        · obtain rfl : V = false := by rw [← hv]; simp [h3]
          clear hv
          have d3 : (xe == 0) = false := by simpa using h3
          go_enter Tryz.func99, Tryz.ntmps99
          obtain ⟨q0, q1, q2, q3, q4, q5, q6, q7⟩ := ev_cells (K.get 0 rfl)
          go_wp2_with (first
            | (go_at_call 75; ((with_reducible refine (HI.out _ K.hb).mono ?_); rintro r9 w1 ⟨rfl, h9⟩; replace K := K.on h9; clear h9; obtain ⟨q0, q1, q2, q3, q4, q5, q6, q7⟩ := ev_cells (K.get 0 rfl)))
            | (go_at_call 76; ((with_reducible refine (HR.out _ K.hb).mono ?_); rintro r9 w1 ⟨rfl, h9⟩; replace K := K.on h9; clear h9; obtain ⟨q0, q1, q2, q3, q4, q5, q6, q7⟩ := ev_cells (K.get 0 rfl))))
          go_ret
          exact ⟨rfl, K.hb⟩
      · obtain rfl : V = false := by rw [← hv]; simp [h2]
        clear hv
        go_enter Tryz.func99, Tryz.ntmps99
        obtain ⟨q0, q1, q2, q3, q4, q5, q6, q7⟩ := ev_cells (K.get 0 rfl)
        go_wp2_with (first
          | (go_at_call 75; ((with_reducible refine (HI.out _ K.hb).mono ?_); rintro r9 w1 ⟨rfl, h9⟩; replace K := K.on h9; clear h9; obtain ⟨q0, q1, q2, q3, q4, q5, q6, q7⟩ := ev_cells (K.get 0 rfl)))
          | (go_at_call 76; ((with_reducible refine (HR.out _ K.hb).mono ?_); rintro r9 w1 ⟨rfl, h9⟩; replace K := K.on h9; clear h9; obtain ⟨q0, q1, q2, q3, q4, q5, q6, q7⟩ := ev_cells (K.get 0 rfl))))
        go_ret
        exact ⟨rfl, K.hb⟩
    · obtain rfl : V = false := by rw [← hv]; simp [h1]
      clear hv
      go_enter Tryz.func99, Tryz.ntmps99
      obtain ⟨q0, q1, q2, q3, q4, q5, q6, q7⟩ := ev_cells (K.get 0 rfl)
      go_wp2_with (first
        | (go_at_call 75; ((with_reducible refine (HI.out _ K.hb).mono ?_); rintro r9 w1 ⟨rfl, h9⟩; replace K := K.on h9; clear h9; obtain ⟨q0, q1, q2, q3, q4, q5, q6, q7⟩ := ev_cells (K.get 0 rfl)))
        | (go_at_call 76; ((with_reducible refine (HR.out _ K.hb).mono ?_); rintro r9 w1 ⟨rfl, h9⟩; replace K := K.on h9; clear h9; obtain ⟨q0, q1, q2, q3, q4, q5, q6, q7⟩ := ev_cells (K.get 0 rfl))))
      go_ret
      exact ⟨rfl, K.hb⟩
end Go.Proofs.YtnmhnjjehglcfaaGreat.Ents

/- The walk of the document's right, for returns. -/
namespace Go.Proofs.YtnmhnjjehglcfaaGreat.HisMath
theorem seek_in {p : Ev → Bool} {l : List Ev} (h : 0 ≤ seek p l) : ∃ (i : Nat) (y : Ev), seek p l = (i : Int) ∧ l[i]? = some y := by
  unfold seek at h ⊢
  cases hf : l.findIdx? p with
  | none => rw [hf] at h; simp at h
  | some i =>
    have h1 := (List.findIdx?_eq_some_iff_getElem.1 hf).1
    exact ⟨i, _, rfl, List.getElem?_eq_getElem h1⟩
end Go.Proofs.YtnmhnjjehglcfaaGreat.HisMath
namespace Go.Proofs.YtnmhnjjehglcfaaGreat.Ents
open Go.RowKit Plan HisMath Rws Env LayMath
theorem ba_ne {a b : ByteArray} (h : ¬ a = b) : (a == b) = false := by
  cases hb : (a == b) with
  | false => rfl
  | true =>
    exfalso; apply h
    obtain ⟨a⟩ := a; obtain ⟨b⟩ := b
    have : (a == b) = true := hb
    rw [eq_of_beq this]
theorem bal_ne {a b : ByteArray} (h : ¬ a = b) : (a.toList == b.toList) = false := by
  rw [Lib.toList_data, Lib.toList_data]
  rw [beq_eq_false_iff_ne]
  intro h2
  apply h
  obtain ⟨⟨a⟩⟩ := a; obtain ⟨⟨b⟩⟩ := b
  have h3 : a = b := h2
  rw [h3]
set_option maxHeartbeats 8000000 in
set_option maxRecDepth 20000 in
theorem refRight_ret (F : Nat → Prop) (L : List Ev) (a : Option Addr) (n c : Nat) (xq xs xk xb xe : Int) (xd xx : ByteArray) (w : World) (hl : VList w F a n c L) :
    Calls Tryz.prog 99 #[.slice a n c, evV ⟨true, xq, xs, xk, xb, xd, xe, xx⟩] w fun r w' => r = .returned (.bool (rightB L ⟨true, xq, xs, xk, xb, xd, xe, xx⟩)) ∧ Below w.heap.size w w' := by
  have hlen := hl.length
  have HI := Lib.hid (fun W (h : Below w.heap.size w W) => refInvoked_any _ L a n c xs W (hl.same h))
  have HR := Lib.hid (fun W (h : Below w.heap.size w W) => refReturned_any _ L a n c xs W (hl.same h))
  have HF := Lib.hid (fun W => refFits_any xk xb xe xd xx W)
  have HAT := Lib.hid (fun W (h : Below w.heap.size w W) i (hi : i < n) => ev_at (hl.same h) i hi)
  have hcp := hl.cap
  unfold maxLen at hcp
  have K := (Env.start w).al (.cells #[.bool true, .int .i64 xq, .int .i64 xs, .int .i64 xk, .int .i64 xb, .string xd, .int .i64 xe, .string xx] 55)
  clear hl
  have HS := Lib.hid (fun (h : 0 ≤ invI L xs) => seek_in h)
  generalize hv : rightB L ⟨true, xq, xs, xk, xb, xd, xe, xx⟩ = V at *
  simp only [rightB] at hv
  rw [show seek (invP xs) L = invI L xs from rfl] at HS
  generalize invI L xs = i1 at *
  generalize retI L xs = r1 at *
  generalize fitsB xk xe xx.size = fB at *
  by_cases h0 : xq < 0 ∨ 4 ≤ xq ∨ xs < 0
  · obtain rfl : V = false := by rw [← hv, if_pos h0]
    clear hv
    have hc : xq < 0 ∨ (0 ≤ xq ∧ 4 ≤ xq) ∨ (0 ≤ xq ∧ xq < 4 ∧ xs < 0) := by omega
    rcases hc with h1 | ⟨h1, h2⟩ | ⟨h1, h2, h3⟩
    · skip
      go_enter Tryz.func99, Tryz.ntmps99
      obtain ⟨q0, q1, q2, q3, q4, q5, q6, q7⟩ := ev_cells (K.get 0 rfl)
      go_wp2_with fail
      go_ret
      exact ⟨rfl, K.hb⟩
    · skip
      go_enter Tryz.func99, Tryz.ntmps99
      obtain ⟨q0, q1, q2, q3, q4, q5, q6, q7⟩ := ev_cells (K.get 0 rfl)
      go_wp2_with fail
      go_ret
      exact ⟨rfl, K.hb⟩
    · skip
      go_enter Tryz.func99, Tryz.ntmps99
      obtain ⟨q0, q1, q2, q3, q4, q5, q6, q7⟩ := ev_cells (K.get 0 rfl)
      go_wp2_with fail
      go_ret
      exact ⟨rfl, K.hb⟩
  · rw [if_neg h0, if_neg (by simp)] at hv
    have g1 : 0 ≤ xq := by omega
    have g2 : xq < 4 := by omega
    have g3 : 0 ≤ xs := by omega
    clear h0
    by_cases h1 : i1 < 0
    · obtain rfl : V = false := by rw [← hv, if_neg (by omega)]
      have e1 : decide (0 ≤ i1) = false := decide_eq_false (by omega)
      have e2 : ¬ 0 ≤ i1 := by omega
      clear hv
      go_enter Tryz.func99, Tryz.ntmps99
      obtain ⟨q0, q1, q2, q3, q4, q5, q6, q7⟩ := ev_cells (K.get 0 rfl)
      go_upto_region 6 with (first
        | (go_at_call 75; ((with_reducible refine (HI.out _ K.hb).mono ?_); rintro r9 w1 ⟨rfl, h9⟩; replace K := K.on h9; clear h9; obtain ⟨q0, q1, q2, q3, q4, q5, q6, q7⟩ := ev_cells (K.get 0 rfl)))
        | (go_at_call 76; ((with_reducible refine (HR.out _ K.hb).mono ?_); rintro r9 w1 ⟨rfl, h9⟩; replace K := K.on h9; clear h9; obtain ⟨q0, q1, q2, q3, q4, q5, q6, q7⟩ := ev_cells (K.get 0 rfl))))
      refine Plan.start (fun W => (W.cell? ⟨w.heap.size, 0, none⟩ = some (.bool true) ∧ W.cell? ⟨w.heap.size, 1, none⟩ = some (.int .i64 xq) ∧ W.cell? ⟨w.heap.size, 2, none⟩ = some (.int .i64 xs) ∧ W.cell? ⟨w.heap.size, 3, none⟩ = some (.int .i64 xk) ∧ W.cell? ⟨w.heap.size, 4, none⟩ = some (.int .i64 xb) ∧ W.cell? ⟨w.heap.size, 5, none⟩ = some (.string xd) ∧ W.cell? ⟨w.heap.size, 6, none⟩ = some (.int .i64 xe) ∧ W.cell? ⟨w.heap.size, 7, none⟩ = some (.string xx))) [(0, true), (1, true), (2, true), (3, true), (4, true), (5, true), (6, false), (7, true), (8, true), (9, true), (10, true), (11, true), (12, true), (13, true), (14, true), (15, true), (16, true), (17, true), (18, true), (19, true), (20, true), (21, true), (22, true), (23, true), (24, true), (25, true), (26, true), (27, true), (28, true), (29, true), (30, true), (31, true), (32, true), (33, true), (34, false), (35, true), (36, true)] (by kernel_rfl) (by kernel_rfl) (by kernel_rfl) (by kernel_rfl) (ev_cells (K.drew.get 0 rfl)) ?_
      simp only [List.map_cons, List.map_nil, List.getElem?_toArray, List.getElem?_cons_zero, List.getElem?_cons_succ]
      replace K := K.drew
      repeat (first | (refine Plan.take ?_ (by rfl) ?_ ?_; rotate_left; (· rintro w9 ⟨v0, v1, v2, v3, v4, v5, v6, v7⟩; go_simp; (try rw [if_neg (by omega)]); all_goals (with_reducible rfl)); simp only [Act.put, List.setIfInBounds_toArray, List.set_cons_zero, List.set_cons_succ]) | (refine Plan.pass (by rfl) ?_; simp only [Act.put, List.setIfInBounds_toArray, List.set_cons_zero, List.set_cons_succ]))
      refine Plan.pass' (by rfl) (ev_cells (K.get 0 rfl)) ?_
      simp only [Act.put, List.setIfInBounds_toArray, List.set_cons_zero, List.set_cons_succ]
      repeat (first | (refine Plan.take ?_ (by rfl) ?_ ?_; rotate_left; (· rintro w9 ⟨v0, v1, v2, v3, v4, v5, v6, v7⟩; go_simp; (try rw [if_neg (by omega)]); all_goals (with_reducible rfl)); simp only [Act.put, List.setIfInBounds_toArray, List.set_cons_zero, List.set_cons_succ]) | (refine Plan.pass (by rfl) ?_; simp only [Act.put, List.setIfInBounds_toArray, List.set_cons_zero, List.set_cons_succ]))
      refine Plan.pass' (by rfl) (ev_cells (K.get 0 rfl)) ?_
      simp only [Act.put, List.setIfInBounds_toArray, List.set_cons_zero, List.set_cons_succ]
      repeat (first | (refine Plan.take ?_ (by rfl) ?_ ?_; rotate_left; (· rintro w9 ⟨v0, v1, v2, v3, v4, v5, v6, v7⟩; go_simp; (try rw [if_neg (by omega)]); all_goals (with_reducible rfl)); simp only [Act.put, List.setIfInBounds_toArray, List.set_cons_zero, List.set_cons_succ]) | (refine Plan.pass (by rfl) ?_; simp only [Act.put, List.setIfInBounds_toArray, List.set_cons_zero, List.set_cons_succ]))
      refine Plan.ends ?_
      go_wp2_with fail
      go_ret
      exact ⟨rfl, K.hb⟩
    · obtain ⟨i, y, rfl, hy⟩ := HS.out (by omega)
      rw [if_pos (by omega), Int.toNat_natCast, hy] at hv
      have hi : i < n := by rw [← hlen]; exact (List.getElem?_eq_some_iff.1 hy).1
      have hiI : (i : Int) < (n : Int) := by omega
      have hi0 : (0 : Int) ≤ (i : Int) := by omega
      have e1 : decide ((0 : Int) ≤ (i : Int)) = true := decide_eq_true hi0
      obtain ⟨ad, y9, rfl, hy9, hat⟩ := HAT.out w (Below.refl _ _) i hi
      have HC := Lib.hid (fun W (h : Below w.heap.size w W) => (show EvAt W ad i y from by
        obtain ⟨x', e', hx, he', q⟩ := HAT.out W h i hi
        obtain rfl := Option.some.inj hx
        rw [hy] at he'
        obtain rfl := Option.some.inj he'
        exact q))
      clear HAT HS hy9 hat hy hlen
      obtain ⟨yr, yq, ys, yk, yb, yd, ye, yx⟩ := y
      simp only at HC hv
      by_cases h2 : r1 < 0
      · by_cases h3 : xq = yq
        · subst h3
          by_cases h4 : xk = yk
          · subst h4
            by_cases h5 : xb = yb
            · subst h5
              by_cases h6 : xd = yd
              · subst h6
                obtain rfl : V = fB := by rw [← hv]; simp [h2]
                clear hv
                go_enter Tryz.func99, Tryz.ntmps99
                obtain ⟨q0, q1, q2, q3, q4, q5, q6, q7⟩ := ev_cells (K.get 0 rfl)
                go_upto_region 6 with (first
                  | (go_at_call 75; ((with_reducible refine (HI.out _ K.hb).mono ?_); rintro r9 w1 ⟨rfl, h9⟩; replace K := K.on h9; clear h9; obtain ⟨q0, q1, q2, q3, q4, q5, q6, q7⟩ := ev_cells (K.get 0 rfl)))
                  | (go_at_call 76; ((with_reducible refine (HR.out _ K.hb).mono ?_); rintro r9 w1 ⟨rfl, h9⟩; replace K := K.on h9; clear h9; obtain ⟨q0, q1, q2, q3, q4, q5, q6, q7⟩ := ev_cells (K.get 0 rfl))))
                refine Plan.start (fun W => EvAt W ad i ⟨yr, xq, ys, xk, xb, xd, ye, yx⟩ ∧ (W.cell? ⟨w.heap.size, 0, none⟩ = some (.bool true) ∧ W.cell? ⟨w.heap.size, 1, none⟩ = some (.int .i64 xq) ∧ W.cell? ⟨w.heap.size, 2, none⟩ = some (.int .i64 xs) ∧ W.cell? ⟨w.heap.size, 3, none⟩ = some (.int .i64 xk) ∧ W.cell? ⟨w.heap.size, 4, none⟩ = some (.int .i64 xb) ∧ W.cell? ⟨w.heap.size, 5, none⟩ = some (.string xd) ∧ W.cell? ⟨w.heap.size, 6, none⟩ = some (.int .i64 xe) ∧ W.cell? ⟨w.heap.size, 7, none⟩ = some (.string xx))) [(0, true), (1, true), (2, true), (3, true), (4, true), (5, true), (6, false), (7, true), (8, true), (9, true), (10, true), (11, true), (12, true), (13, true), (14, true), (15, true), (16, true), (17, true), (18, true), (19, true), (20, true), (21, true), (22, true), (23, true), (24, true), (25, true), (26, true), (27, true), (28, true), (29, true), (30, true), (31, true), (32, true), (33, true), (34, false), (35, true), (36, true)] (by kernel_rfl) (by kernel_rfl) (by kernel_rfl) (by kernel_rfl) ⟨HC.out _ K.drew.hb, ev_cells (K.drew.get 0 rfl)⟩ ?_
                simp only [List.map_cons, List.map_nil, List.getElem?_toArray, List.getElem?_cons_zero, List.getElem?_cons_succ]
                replace K := K.drew
                repeat (first | (refine Plan.take ?_ (by rfl) ?_ ?_; rotate_left; (· rintro w9 ⟨⟨u0, u1, u2, u3, u4, u5, u6, u7⟩, ⟨v0, v1, v2, v3, v4, v5, v6, v7⟩⟩; go_simp; (try rw [if_neg (by omega)]); all_goals (with_reducible rfl)); simp only [Act.put, List.setIfInBounds_toArray, List.set_cons_zero, List.set_cons_succ]) | (refine Plan.pass (by rfl) ?_; simp only [Act.put, List.setIfInBounds_toArray, List.set_cons_zero, List.set_cons_succ]))
                refine Plan.call (by rfl) 76 _ ?_ (HR.out _ K.hb) ?_
                · go_simp
                rintro r9 w2 ⟨rfl, h9⟩
                replace K := K.on h9
                clear h9
                refine ⟨_, rfl, ⟨HC.out _ K.hb, ev_cells (K.get 0 rfl)⟩, ?_⟩
                simp only [Act.put, List.setIfInBounds_toArray, List.set_cons_zero, List.set_cons_succ]
                repeat (first | (refine Plan.take ?_ (by rfl) ?_ ?_; rotate_left; (· rintro w9 ⟨⟨u0, u1, u2, u3, u4, u5, u6, u7⟩, ⟨v0, v1, v2, v3, v4, v5, v6, v7⟩⟩; go_simp; (try rw [if_neg (by omega)]); all_goals (with_reducible rfl)); simp only [Act.put, List.setIfInBounds_toArray, List.set_cons_zero, List.set_cons_succ]) | (refine Plan.pass (by rfl) ?_; simp only [Act.put, List.setIfInBounds_toArray, List.set_cons_zero, List.set_cons_succ]))
                refine Plan.call (by rfl) 130 _ ?_ (HF.out _) ?_
                · go_simp
                rintro r9 w2 ⟨rfl, h9⟩
                replace K := K.on h9
                clear h9
                refine ⟨_, rfl, ⟨HC.out _ K.hb, ev_cells (K.get 0 rfl)⟩, ?_⟩
                simp only [Act.put, List.setIfInBounds_toArray, List.set_cons_zero, List.set_cons_succ]
                repeat (first | (refine Plan.take ?_ (by rfl) ?_ ?_; rotate_left; (· rintro w9 ⟨⟨u0, u1, u2, u3, u4, u5, u6, u7⟩, ⟨v0, v1, v2, v3, v4, v5, v6, v7⟩⟩; go_simp; (try rw [if_neg (by omega)]); all_goals (with_reducible rfl)); simp only [Act.put, List.setIfInBounds_toArray, List.set_cons_zero, List.set_cons_succ]) | (refine Plan.pass (by rfl) ?_; simp only [Act.put, List.setIfInBounds_toArray, List.set_cons_zero, List.set_cons_succ]))
                refine Plan.ends ?_
                go_wp2_with fail
                go_ret
                exact ⟨rfl, K.hb⟩
              · obtain rfl : V = false := by rw [← hv]; simp [h6]
                clear hv
                have d6 : decide (yd = xd) = false := decide_eq_false (fun h => h6 h.symm)
                have d7 : ¬ yd = xd := fun h => h6 h.symm
                have d8 := ba_ne d7
                have d9 := bal_ne d7
                go_enter Tryz.func99, Tryz.ntmps99
                obtain ⟨q0, q1, q2, q3, q4, q5, q6, q7⟩ := ev_cells (K.get 0 rfl)
                go_upto_region 6 with (first
                  | (go_at_call 75; ((with_reducible refine (HI.out _ K.hb).mono ?_); rintro r9 w1 ⟨rfl, h9⟩; replace K := K.on h9; clear h9; obtain ⟨q0, q1, q2, q3, q4, q5, q6, q7⟩ := ev_cells (K.get 0 rfl)))
                  | (go_at_call 76; ((with_reducible refine (HR.out _ K.hb).mono ?_); rintro r9 w1 ⟨rfl, h9⟩; replace K := K.on h9; clear h9; obtain ⟨q0, q1, q2, q3, q4, q5, q6, q7⟩ := ev_cells (K.get 0 rfl))))
                refine Plan.start (fun W => EvAt W ad i ⟨yr, xq, ys, xk, xb, yd, ye, yx⟩ ∧ (W.cell? ⟨w.heap.size, 0, none⟩ = some (.bool true) ∧ W.cell? ⟨w.heap.size, 1, none⟩ = some (.int .i64 xq) ∧ W.cell? ⟨w.heap.size, 2, none⟩ = some (.int .i64 xs) ∧ W.cell? ⟨w.heap.size, 3, none⟩ = some (.int .i64 xk) ∧ W.cell? ⟨w.heap.size, 4, none⟩ = some (.int .i64 xb) ∧ W.cell? ⟨w.heap.size, 5, none⟩ = some (.string xd) ∧ W.cell? ⟨w.heap.size, 6, none⟩ = some (.int .i64 xe) ∧ W.cell? ⟨w.heap.size, 7, none⟩ = some (.string xx))) [(0, true), (1, true), (2, true), (3, true), (4, true), (5, true), (6, false), (7, true), (8, true), (9, true), (10, true), (11, true), (12, true), (13, true), (14, true), (15, true), (16, true), (17, true), (18, true), (19, true), (20, true), (21, true), (22, true), (23, true), (24, true), (25, true), (26, true), (27, true), (28, true), (29, true), (30, true), (31, true), (32, true), (33, true), (34, false), (35, true), (36, true)] (by kernel_rfl) (by kernel_rfl) (by kernel_rfl) (by kernel_rfl) ⟨HC.out _ K.drew.hb, ev_cells (K.drew.get 0 rfl)⟩ ?_
                simp only [List.map_cons, List.map_nil, List.getElem?_toArray, List.getElem?_cons_zero, List.getElem?_cons_succ]
                replace K := K.drew
                repeat (first | (refine Plan.take ?_ (by rfl) ?_ ?_; rotate_left; (· rintro w9 ⟨⟨u0, u1, u2, u3, u4, u5, u6, u7⟩, ⟨v0, v1, v2, v3, v4, v5, v6, v7⟩⟩; go_simp; (try rw [if_neg (by omega)]); all_goals (with_reducible rfl)); simp only [Act.put, List.setIfInBounds_toArray, List.set_cons_zero, List.set_cons_succ]) | (refine Plan.pass (by rfl) ?_; simp only [Act.put, List.setIfInBounds_toArray, List.set_cons_zero, List.set_cons_succ]))
                refine Plan.call (by rfl) 76 _ ?_ (HR.out _ K.hb) ?_
                · go_simp
                rintro r9 w2 ⟨rfl, h9⟩
                replace K := K.on h9
                clear h9
                refine ⟨_, rfl, ⟨HC.out _ K.hb, ev_cells (K.get 0 rfl)⟩, ?_⟩
                simp only [Act.put, List.setIfInBounds_toArray, List.set_cons_zero, List.set_cons_succ]
                repeat (first | (refine Plan.take ?_ (by rfl) ?_ ?_; rotate_left; (· rintro w9 ⟨⟨u0, u1, u2, u3, u4, u5, u6, u7⟩, ⟨v0, v1, v2, v3, v4, v5, v6, v7⟩⟩; go_simp; (try rw [if_neg (by omega)]); all_goals (with_reducible rfl)); simp only [Act.put, List.setIfInBounds_toArray, List.set_cons_zero, List.set_cons_succ]) | (refine Plan.pass (by rfl) ?_; simp only [Act.put, List.setIfInBounds_toArray, List.set_cons_zero, List.set_cons_succ]))
                refine Plan.pass' (by rfl) ⟨HC.out _ K.hb, ev_cells (K.get 0 rfl)⟩ ?_
                simp only [Act.put, List.setIfInBounds_toArray, List.set_cons_zero, List.set_cons_succ]
                repeat (first | (refine Plan.take ?_ (by rfl) ?_ ?_; rotate_left; (· rintro w9 ⟨⟨u0, u1, u2, u3, u4, u5, u6, u7⟩, ⟨v0, v1, v2, v3, v4, v5, v6, v7⟩⟩; go_simp; (try rw [if_neg (by omega)]); all_goals (with_reducible rfl)); simp only [Act.put, List.setIfInBounds_toArray, List.set_cons_zero, List.set_cons_succ]) | (refine Plan.pass (by rfl) ?_; simp only [Act.put, List.setIfInBounds_toArray, List.set_cons_zero, List.set_cons_succ]))
                refine Plan.ends ?_
                go_wp2_with fail
                go_ret
                exact ⟨rfl, K.hb⟩
            · obtain rfl : V = false := by rw [← hv]; simp [h5]
              clear hv
              have d5 : (yb == xb) = false := by simp; omega
              go_enter Tryz.func99, Tryz.ntmps99
              obtain ⟨q0, q1, q2, q3, q4, q5, q6, q7⟩ := ev_cells (K.get 0 rfl)
              go_upto_region 6 with (first
                | (go_at_call 75; ((with_reducible refine (HI.out _ K.hb).mono ?_); rintro r9 w1 ⟨rfl, h9⟩; replace K := K.on h9; clear h9; obtain ⟨q0, q1, q2, q3, q4, q5, q6, q7⟩ := ev_cells (K.get 0 rfl)))
                | (go_at_call 76; ((with_reducible refine (HR.out _ K.hb).mono ?_); rintro r9 w1 ⟨rfl, h9⟩; replace K := K.on h9; clear h9; obtain ⟨q0, q1, q2, q3, q4, q5, q6, q7⟩ := ev_cells (K.get 0 rfl))))
              refine Plan.start (fun W => EvAt W ad i ⟨yr, xq, ys, xk, yb, yd, ye, yx⟩ ∧ (W.cell? ⟨w.heap.size, 0, none⟩ = some (.bool true) ∧ W.cell? ⟨w.heap.size, 1, none⟩ = some (.int .i64 xq) ∧ W.cell? ⟨w.heap.size, 2, none⟩ = some (.int .i64 xs) ∧ W.cell? ⟨w.heap.size, 3, none⟩ = some (.int .i64 xk) ∧ W.cell? ⟨w.heap.size, 4, none⟩ = some (.int .i64 xb) ∧ W.cell? ⟨w.heap.size, 5, none⟩ = some (.string xd) ∧ W.cell? ⟨w.heap.size, 6, none⟩ = some (.int .i64 xe) ∧ W.cell? ⟨w.heap.size, 7, none⟩ = some (.string xx))) [(0, true), (1, true), (2, true), (3, true), (4, true), (5, true), (6, false), (7, true), (8, true), (9, true), (10, true), (11, true), (12, true), (13, true), (14, true), (15, true), (16, true), (17, true), (18, true), (19, true), (20, true), (21, true), (22, true), (23, true), (24, true), (25, true), (26, true), (27, true), (28, true), (29, true), (30, true), (31, true), (32, true), (33, true), (34, false), (35, true), (36, true)] (by kernel_rfl) (by kernel_rfl) (by kernel_rfl) (by kernel_rfl) ⟨HC.out _ K.drew.hb, ev_cells (K.drew.get 0 rfl)⟩ ?_
              simp only [List.map_cons, List.map_nil, List.getElem?_toArray, List.getElem?_cons_zero, List.getElem?_cons_succ]
              replace K := K.drew
              repeat (first | (refine Plan.take ?_ (by rfl) ?_ ?_; rotate_left; (· rintro w9 ⟨⟨u0, u1, u2, u3, u4, u5, u6, u7⟩, ⟨v0, v1, v2, v3, v4, v5, v6, v7⟩⟩; go_simp; (try rw [if_neg (by omega)]); all_goals (with_reducible rfl)); simp only [Act.put, List.setIfInBounds_toArray, List.set_cons_zero, List.set_cons_succ]) | (refine Plan.pass (by rfl) ?_; simp only [Act.put, List.setIfInBounds_toArray, List.set_cons_zero, List.set_cons_succ]))
              refine Plan.call (by rfl) 76 _ ?_ (HR.out _ K.hb) ?_
              · go_simp
              rintro r9 w2 ⟨rfl, h9⟩
              replace K := K.on h9
              clear h9
              refine ⟨_, rfl, ⟨HC.out _ K.hb, ev_cells (K.get 0 rfl)⟩, ?_⟩
              simp only [Act.put, List.setIfInBounds_toArray, List.set_cons_zero, List.set_cons_succ]
              repeat (first | (refine Plan.take ?_ (by rfl) ?_ ?_; rotate_left; (· rintro w9 ⟨⟨u0, u1, u2, u3, u4, u5, u6, u7⟩, ⟨v0, v1, v2, v3, v4, v5, v6, v7⟩⟩; go_simp; (try rw [if_neg (by omega)]); all_goals (with_reducible rfl)); simp only [Act.put, List.setIfInBounds_toArray, List.set_cons_zero, List.set_cons_succ]) | (refine Plan.pass (by rfl) ?_; simp only [Act.put, List.setIfInBounds_toArray, List.set_cons_zero, List.set_cons_succ]))
              refine Plan.pass' (by rfl) ⟨HC.out _ K.hb, ev_cells (K.get 0 rfl)⟩ ?_
              simp only [Act.put, List.setIfInBounds_toArray, List.set_cons_zero, List.set_cons_succ]
              repeat (first | (refine Plan.take ?_ (by rfl) ?_ ?_; rotate_left; (· rintro w9 ⟨⟨u0, u1, u2, u3, u4, u5, u6, u7⟩, ⟨v0, v1, v2, v3, v4, v5, v6, v7⟩⟩; go_simp; (try rw [if_neg (by omega)]); all_goals (with_reducible rfl)); simp only [Act.put, List.setIfInBounds_toArray, List.set_cons_zero, List.set_cons_succ]) | (refine Plan.pass (by rfl) ?_; simp only [Act.put, List.setIfInBounds_toArray, List.set_cons_zero, List.set_cons_succ]))
              refine Plan.ends ?_
              go_wp2_with fail
              go_ret
              exact ⟨rfl, K.hb⟩
          · obtain rfl : V = false := by rw [← hv]; simp [h4]
            clear hv
            have d4 : (yk == xk) = false := by simp; omega
            go_enter Tryz.func99, Tryz.ntmps99
            obtain ⟨q0, q1, q2, q3, q4, q5, q6, q7⟩ := ev_cells (K.get 0 rfl)
            go_upto_region 6 with (first
              | (go_at_call 75; ((with_reducible refine (HI.out _ K.hb).mono ?_); rintro r9 w1 ⟨rfl, h9⟩; replace K := K.on h9; clear h9; obtain ⟨q0, q1, q2, q3, q4, q5, q6, q7⟩ := ev_cells (K.get 0 rfl)))
              | (go_at_call 76; ((with_reducible refine (HR.out _ K.hb).mono ?_); rintro r9 w1 ⟨rfl, h9⟩; replace K := K.on h9; clear h9; obtain ⟨q0, q1, q2, q3, q4, q5, q6, q7⟩ := ev_cells (K.get 0 rfl))))
            refine Plan.start (fun W => EvAt W ad i ⟨yr, xq, ys, yk, yb, yd, ye, yx⟩ ∧ (W.cell? ⟨w.heap.size, 0, none⟩ = some (.bool true) ∧ W.cell? ⟨w.heap.size, 1, none⟩ = some (.int .i64 xq) ∧ W.cell? ⟨w.heap.size, 2, none⟩ = some (.int .i64 xs) ∧ W.cell? ⟨w.heap.size, 3, none⟩ = some (.int .i64 xk) ∧ W.cell? ⟨w.heap.size, 4, none⟩ = some (.int .i64 xb) ∧ W.cell? ⟨w.heap.size, 5, none⟩ = some (.string xd) ∧ W.cell? ⟨w.heap.size, 6, none⟩ = some (.int .i64 xe) ∧ W.cell? ⟨w.heap.size, 7, none⟩ = some (.string xx))) [(0, true), (1, true), (2, true), (3, true), (4, true), (5, true), (6, false), (7, true), (8, true), (9, true), (10, true), (11, true), (12, true), (13, true), (14, true), (15, true), (16, true), (17, true), (18, true), (19, true), (20, true), (21, true), (22, true), (23, true), (24, true), (25, true), (26, true), (27, true), (28, true), (29, true), (30, true), (31, true), (32, true), (33, true), (34, false), (35, true), (36, true)] (by kernel_rfl) (by kernel_rfl) (by kernel_rfl) (by kernel_rfl) ⟨HC.out _ K.drew.hb, ev_cells (K.drew.get 0 rfl)⟩ ?_
            simp only [List.map_cons, List.map_nil, List.getElem?_toArray, List.getElem?_cons_zero, List.getElem?_cons_succ]
            replace K := K.drew
            repeat (first | (refine Plan.take ?_ (by rfl) ?_ ?_; rotate_left; (· rintro w9 ⟨⟨u0, u1, u2, u3, u4, u5, u6, u7⟩, ⟨v0, v1, v2, v3, v4, v5, v6, v7⟩⟩; go_simp; (try rw [if_neg (by omega)]); all_goals (with_reducible rfl)); simp only [Act.put, List.setIfInBounds_toArray, List.set_cons_zero, List.set_cons_succ]) | (refine Plan.pass (by rfl) ?_; simp only [Act.put, List.setIfInBounds_toArray, List.set_cons_zero, List.set_cons_succ]))
            refine Plan.call (by rfl) 76 _ ?_ (HR.out _ K.hb) ?_
            · go_simp
            rintro r9 w2 ⟨rfl, h9⟩
            replace K := K.on h9
            clear h9
            refine ⟨_, rfl, ⟨HC.out _ K.hb, ev_cells (K.get 0 rfl)⟩, ?_⟩
            simp only [Act.put, List.setIfInBounds_toArray, List.set_cons_zero, List.set_cons_succ]
            repeat (first | (refine Plan.take ?_ (by rfl) ?_ ?_; rotate_left; (· rintro w9 ⟨⟨u0, u1, u2, u3, u4, u5, u6, u7⟩, ⟨v0, v1, v2, v3, v4, v5, v6, v7⟩⟩; go_simp; (try rw [if_neg (by omega)]); all_goals (with_reducible rfl)); simp only [Act.put, List.setIfInBounds_toArray, List.set_cons_zero, List.set_cons_succ]) | (refine Plan.pass (by rfl) ?_; simp only [Act.put, List.setIfInBounds_toArray, List.set_cons_zero, List.set_cons_succ]))
            refine Plan.pass' (by rfl) ⟨HC.out _ K.hb, ev_cells (K.get 0 rfl)⟩ ?_
            simp only [Act.put, List.setIfInBounds_toArray, List.set_cons_zero, List.set_cons_succ]
            repeat (first | (refine Plan.take ?_ (by rfl) ?_ ?_; rotate_left; (· rintro w9 ⟨⟨u0, u1, u2, u3, u4, u5, u6, u7⟩, ⟨v0, v1, v2, v3, v4, v5, v6, v7⟩⟩; go_simp; (try rw [if_neg (by omega)]); all_goals (with_reducible rfl)); simp only [Act.put, List.setIfInBounds_toArray, List.set_cons_zero, List.set_cons_succ]) | (refine Plan.pass (by rfl) ?_; simp only [Act.put, List.setIfInBounds_toArray, List.set_cons_zero, List.set_cons_succ]))
            refine Plan.ends ?_
            go_wp2_with fail
            go_ret
            exact ⟨rfl, K.hb⟩
        · obtain rfl : V = false := by rw [← hv]; simp [h3]
          clear hv
          have d3 : (yq == xq) = false := by simp; omega
          go_enter Tryz.func99, Tryz.ntmps99
          obtain ⟨q0, q1, q2, q3, q4, q5, q6, q7⟩ := ev_cells (K.get 0 rfl)
          go_upto_region 6 with (first
            | (go_at_call 75; ((with_reducible refine (HI.out _ K.hb).mono ?_); rintro r9 w1 ⟨rfl, h9⟩; replace K := K.on h9; clear h9; obtain ⟨q0, q1, q2, q3, q4, q5, q6, q7⟩ := ev_cells (K.get 0 rfl)))
            | (go_at_call 76; ((with_reducible refine (HR.out _ K.hb).mono ?_); rintro r9 w1 ⟨rfl, h9⟩; replace K := K.on h9; clear h9; obtain ⟨q0, q1, q2, q3, q4, q5, q6, q7⟩ := ev_cells (K.get 0 rfl))))
          refine Plan.start (fun W => EvAt W ad i ⟨yr, yq, ys, yk, yb, yd, ye, yx⟩ ∧ (W.cell? ⟨w.heap.size, 0, none⟩ = some (.bool true) ∧ W.cell? ⟨w.heap.size, 1, none⟩ = some (.int .i64 xq) ∧ W.cell? ⟨w.heap.size, 2, none⟩ = some (.int .i64 xs) ∧ W.cell? ⟨w.heap.size, 3, none⟩ = some (.int .i64 xk) ∧ W.cell? ⟨w.heap.size, 4, none⟩ = some (.int .i64 xb) ∧ W.cell? ⟨w.heap.size, 5, none⟩ = some (.string xd) ∧ W.cell? ⟨w.heap.size, 6, none⟩ = some (.int .i64 xe) ∧ W.cell? ⟨w.heap.size, 7, none⟩ = some (.string xx))) [(0, true), (1, true), (2, true), (3, true), (4, true), (5, true), (6, false), (7, true), (8, true), (9, true), (10, true), (11, true), (12, true), (13, true), (14, true), (15, true), (16, true), (17, true), (18, true), (19, true), (20, true), (21, true), (22, true), (23, true), (24, true), (25, true), (26, true), (27, true), (28, true), (29, true), (30, true), (31, true), (32, true), (33, true), (34, false), (35, true), (36, true)] (by kernel_rfl) (by kernel_rfl) (by kernel_rfl) (by kernel_rfl) ⟨HC.out _ K.drew.hb, ev_cells (K.drew.get 0 rfl)⟩ ?_
          simp only [List.map_cons, List.map_nil, List.getElem?_toArray, List.getElem?_cons_zero, List.getElem?_cons_succ]
          replace K := K.drew
          repeat (first | (refine Plan.take ?_ (by rfl) ?_ ?_; rotate_left; (· rintro w9 ⟨⟨u0, u1, u2, u3, u4, u5, u6, u7⟩, ⟨v0, v1, v2, v3, v4, v5, v6, v7⟩⟩; go_simp; (try rw [if_neg (by omega)]); all_goals (with_reducible rfl)); simp only [Act.put, List.setIfInBounds_toArray, List.set_cons_zero, List.set_cons_succ]) | (refine Plan.pass (by rfl) ?_; simp only [Act.put, List.setIfInBounds_toArray, List.set_cons_zero, List.set_cons_succ]))
          refine Plan.call (by rfl) 76 _ ?_ (HR.out _ K.hb) ?_
          · go_simp
          rintro r9 w2 ⟨rfl, h9⟩
          replace K := K.on h9
          clear h9
          refine ⟨_, rfl, ⟨HC.out _ K.hb, ev_cells (K.get 0 rfl)⟩, ?_⟩
          simp only [Act.put, List.setIfInBounds_toArray, List.set_cons_zero, List.set_cons_succ]
          repeat (first | (refine Plan.take ?_ (by rfl) ?_ ?_; rotate_left; (· rintro w9 ⟨⟨u0, u1, u2, u3, u4, u5, u6, u7⟩, ⟨v0, v1, v2, v3, v4, v5, v6, v7⟩⟩; go_simp; (try rw [if_neg (by omega)]); all_goals (with_reducible rfl)); simp only [Act.put, List.setIfInBounds_toArray, List.set_cons_zero, List.set_cons_succ]) | (refine Plan.pass (by rfl) ?_; simp only [Act.put, List.setIfInBounds_toArray, List.set_cons_zero, List.set_cons_succ]))
          refine Plan.pass' (by rfl) ⟨HC.out _ K.hb, ev_cells (K.get 0 rfl)⟩ ?_
          simp only [Act.put, List.setIfInBounds_toArray, List.set_cons_zero, List.set_cons_succ]
          repeat (first | (refine Plan.take ?_ (by rfl) ?_ ?_; rotate_left; (· rintro w9 ⟨⟨u0, u1, u2, u3, u4, u5, u6, u7⟩, ⟨v0, v1, v2, v3, v4, v5, v6, v7⟩⟩; go_simp; (try rw [if_neg (by omega)]); all_goals (with_reducible rfl)); simp only [Act.put, List.setIfInBounds_toArray, List.set_cons_zero, List.set_cons_succ]) | (refine Plan.pass (by rfl) ?_; simp only [Act.put, List.setIfInBounds_toArray, List.set_cons_zero, List.set_cons_succ]))
          refine Plan.ends ?_
          go_wp2_with fail
          go_ret
          exact ⟨rfl, K.hb⟩
      · obtain rfl : V = false := by rw [← hv]; simp [h2]
        clear hv
        have e3 : decide (r1 < 0) = false := decide_eq_false h2
        have e4 : 0 ≤ r1 := by omega
        go_enter Tryz.func99, Tryz.ntmps99
        obtain ⟨q0, q1, q2, q3, q4, q5, q6, q7⟩ := ev_cells (K.get 0 rfl)
        go_upto_region 6 with (first
          | (go_at_call 75; ((with_reducible refine (HI.out _ K.hb).mono ?_); rintro r9 w1 ⟨rfl, h9⟩; replace K := K.on h9; clear h9; obtain ⟨q0, q1, q2, q3, q4, q5, q6, q7⟩ := ev_cells (K.get 0 rfl)))
          | (go_at_call 76; ((with_reducible refine (HR.out _ K.hb).mono ?_); rintro r9 w1 ⟨rfl, h9⟩; replace K := K.on h9; clear h9; obtain ⟨q0, q1, q2, q3, q4, q5, q6, q7⟩ := ev_cells (K.get 0 rfl))))
        refine Plan.start (fun W => EvAt W ad i ⟨yr, yq, ys, yk, yb, yd, ye, yx⟩ ∧ (W.cell? ⟨w.heap.size, 0, none⟩ = some (.bool true) ∧ W.cell? ⟨w.heap.size, 1, none⟩ = some (.int .i64 xq) ∧ W.cell? ⟨w.heap.size, 2, none⟩ = some (.int .i64 xs) ∧ W.cell? ⟨w.heap.size, 3, none⟩ = some (.int .i64 xk) ∧ W.cell? ⟨w.heap.size, 4, none⟩ = some (.int .i64 xb) ∧ W.cell? ⟨w.heap.size, 5, none⟩ = some (.string xd) ∧ W.cell? ⟨w.heap.size, 6, none⟩ = some (.int .i64 xe) ∧ W.cell? ⟨w.heap.size, 7, none⟩ = some (.string xx))) [(0, true), (1, true), (2, true), (3, true), (4, true), (5, true), (6, false), (7, true), (8, true), (9, true), (10, true), (11, true), (12, true), (13, true), (14, true), (15, true), (16, true), (17, true), (18, true), (19, true), (20, true), (21, true), (22, true), (23, true), (24, true), (25, true), (26, true), (27, true), (28, true), (29, true), (30, true), (31, true), (32, true), (33, true), (34, false), (35, true), (36, true)] (by kernel_rfl) (by kernel_rfl) (by kernel_rfl) (by kernel_rfl) ⟨HC.out _ K.drew.hb, ev_cells (K.drew.get 0 rfl)⟩ ?_
        simp only [List.map_cons, List.map_nil, List.getElem?_toArray, List.getElem?_cons_zero, List.getElem?_cons_succ]
        replace K := K.drew
        repeat (first | (refine Plan.take ?_ (by rfl) ?_ ?_; rotate_left; (· rintro w9 ⟨⟨u0, u1, u2, u3, u4, u5, u6, u7⟩, ⟨v0, v1, v2, v3, v4, v5, v6, v7⟩⟩; go_simp; (try rw [if_neg (by omega)]); all_goals (with_reducible rfl)); simp only [Act.put, List.setIfInBounds_toArray, List.set_cons_zero, List.set_cons_succ]) | (refine Plan.pass (by rfl) ?_; simp only [Act.put, List.setIfInBounds_toArray, List.set_cons_zero, List.set_cons_succ]))
        refine Plan.call (by rfl) 76 _ ?_ (HR.out _ K.hb) ?_
        · go_simp
        rintro r9 w2 ⟨rfl, h9⟩
        replace K := K.on h9
        clear h9
        refine ⟨_, rfl, ⟨HC.out _ K.hb, ev_cells (K.get 0 rfl)⟩, ?_⟩
        simp only [Act.put, List.setIfInBounds_toArray, List.set_cons_zero, List.set_cons_succ]
        repeat (first | (refine Plan.take ?_ (by rfl) ?_ ?_; rotate_left; (· rintro w9 ⟨⟨u0, u1, u2, u3, u4, u5, u6, u7⟩, ⟨v0, v1, v2, v3, v4, v5, v6, v7⟩⟩; go_simp; (try rw [if_neg (by omega)]); all_goals (with_reducible rfl)); simp only [Act.put, List.setIfInBounds_toArray, List.set_cons_zero, List.set_cons_succ]) | (refine Plan.pass (by rfl) ?_; simp only [Act.put, List.setIfInBounds_toArray, List.set_cons_zero, List.set_cons_succ]))
        refine Plan.pass' (by rfl) ⟨HC.out _ K.hb, ev_cells (K.get 0 rfl)⟩ ?_
        simp only [Act.put, List.setIfInBounds_toArray, List.set_cons_zero, List.set_cons_succ]
        repeat (first | (refine Plan.take ?_ (by rfl) ?_ ?_; rotate_left; (· rintro w9 ⟨⟨u0, u1, u2, u3, u4, u5, u6, u7⟩, ⟨v0, v1, v2, v3, v4, v5, v6, v7⟩⟩; go_simp; (try rw [if_neg (by omega)]); all_goals (with_reducible rfl)); simp only [Act.put, List.setIfInBounds_toArray, List.set_cons_zero, List.set_cons_succ]) | (refine Plan.pass (by rfl) ?_; simp only [Act.put, List.setIfInBounds_toArray, List.set_cons_zero, List.set_cons_succ]))
        refine Plan.ends ?_
        go_wp2_with fail
        go_ret
        exact ⟨rfl, K.hb⟩
end Go.Proofs.YtnmhnjjehglcfaaGreat.Ents

/- The walk of the document's right for any event, and of its Check of histories. -/
namespace Go.Proofs.YtnmhnjjehglcfaaGreat.HisMath
def rightAt (L : List Ev) (i : Nat) : Bool := match L[i]? with
  | some x => rightB (L.take i) x
  | none => true
def rightsB (L : List Ev) : Bool := (List.range L.length).all (rightAt L)
def checkE (b : Int) (L : List Ev) : Int := if b < 1 ∨ 128 < b then 1 else if 400 < L.length then 19 else if rightsB L then 0 else 17
theorem rights_bad {L : List Ev} {i : Nat} (hi : i < L.length) (h : rightAt L i = false) : rightsB L = false := by
  unfold rightsB
  rw [List.all_eq_false]
  exact ⟨i, List.mem_range.2 hi, by simp [h]⟩
theorem rights_good {L : List Ev} (h : ∀ i, i < L.length → rightAt L i = true) : rightsB L = true := by
  unfold rightsB
  rw [List.all_eq_true]
  exact fun i hi => h i (List.mem_range.1 hi)
end Go.Proofs.YtnmhnjjehglcfaaGreat.HisMath
namespace Go.Proofs.YtnmhnjjehglcfaaGreat.Ents
open Go.RowKit Plan HisMath Rws Env LayMath
theorem refRight_any (F : Nat → Prop) (L : List Ev) (a : Option Addr) (n c : Nat) (x : Ev) (w : World) (hl : VList w F a n c L) :
    Calls Tryz.prog 99 #[.slice a n c, evV x] w fun r w' => r = .returned (.bool (rightB L x)) ∧ Below w.heap.size w w' := by
  obtain ⟨r, q, s, k, b, d, e, z⟩ := x
  cases r
  · exact refRight_call F L a n c q s k b e d z w hl
  · exact refRight_ret F L a n c q s k b e d z w hl
set_option maxHeartbeats 8000000 in
set_option maxRecDepth 20000 in
theorem refHCheck_any (F : Nat → Prop) (L : List Ev) (b : Int) (a : Option Addr) (n c : Nat) (w : World) (hl : VList w F a n c L) :
    Calls Tryz.prog 74 #[.int .i64 b, .slice a n c] w fun r w' => r = .returned (.int .i64 (checkE b L)) ∧ Below w.heap.size w w' := by
  have hlen := hl.length
  have hb := Below.refl w.heap.size w
  obtain ⟨hcp, hcm⟩ := hl.cap
  unfold maxLen at hcm
  have HAT := Lib.hid (fun W (h : Below w.heap.size w W) i (hi : i < n) => ev_at (hl.same h) i hi)
  have HR := Lib.hid (fun W (h : Below w.heap.size w W) i (hi : i ≤ n) y => refRight_any _ (L.take i) a i c y W ((hl.same h).front vrOk i hi))
  clear hl
  unfold checkE
  by_cases q1 : b < 1
  · rw [if_pos (.inl q1)]
    go_enter Tryz.func74, Tryz.ntmps74
    go_wp2_with fail
    go_ret
    exact ⟨rfl, hb⟩
  by_cases q2 : 128 < b
  · rw [if_pos (.inr q2)]
    go_enter Tryz.func74, Tryz.ntmps74
    go_wp2_with fail
    go_ret
    exact ⟨rfl, hb⟩
  rw [if_neg (by omega), hlen]
  by_cases q3 : 400 < n
  · rw [if_pos q3]
    have q4 : (400 : Int) < (n : Int) := by omega
    have q5 : decide (400 < n) = true := decide_eq_true q3
    go_enter Tryz.func74, Tryz.ntmps74
    go_wp2_with fail
    go_ret
    exact ⟨rfl, hb⟩
  rw [if_neg q3]
  have q4 : ¬ (400 : Int) < (n : Int) := by omega
  have q5 : decide (400 < n) = false := decide_eq_false q3
  have HBAD := Lib.hid (fun i (h1 : i < n) (h2 : rightAt L i = false) => (show (if rightsB L = true then (0 : Int) else 17) = 17 from by rw [rights_bad (by omega) h2]; rfl))
  have HGOOD := Lib.hid (fun (h : ∀ i, i < n → rightAt L i = true) => (show (if rightsB L = true then (0 : Int) else 17) = 0 from by rw [rights_good (L := L) (by rw [hlen]; exact h)]; rfl))
  generalize (if rightsB L = true then (0 : Int) else 17) = R at *
  clear hlen
  go_enter Tryz.func74, Tryz.ntmps74
  go_wp2_with fail
  go_loopw [5] (fun x wr => ∃ j : Nat, x = .int .i64 (j : Int) ∧ j ≤ n ∧ RowKit.Hid (∀ i, i < j → rightAt L i = true) ∧ Below w.heap.size w wr) (fun x _ => n - (intOf x).toNat)
  case atStart => exact ⟨0, rfl, by omega, Lib.hid (fun i hi => absurd hi (Nat.not_lt_zero _)), hb⟩
  case round =>
    clear hb
    obtain ⟨j, rfl, hj, hall, hb⟩ := hrel
    by_cases hlt : j < n
    · obtain ⟨x, y, rfl, hy, hat⟩ := HAT.out wr hb j hlt
      have hjI : (j : Int) < (n : Int) := by omega
      have hjc : j ≤ c := by omega
      have hst : rightAt L j = rightB (L.take j) y := by unfold rightAt; rw [hy]
      have HRj := Lib.hid (fun W h => HR.out W h j hj y)
      have HC := Lib.hid (fun W (h : Below w.heap.size w W) => (show EvAt W x j y from by
        obtain ⟨x', e', hx, he', q⟩ := HAT.out W h j hlt
        obtain rfl := Option.some.inj hx
        rw [hy] at he'
        obtain rfl := Option.some.inj he'
        exact q))
      obtain ⟨er, eq, es, ek, eb, ed, ee, ex⟩ := y
      try simp only at hat HC
      generalize rightB (L.take j) ⟨er, eq, es, ek, eb, ed, ee, ex⟩ = z at *
      clear hy
      cases z
      · have HX := Lib.hid (HBAD.out j hlt hst)
        clear hst
        go_upto_region 8 with fail
        refine Plan.start (fun W => EvAt W x j ⟨er, eq, es, ek, eb, ed, ee, ex⟩ ∧ True) [(0, true), (1, true), (2, true), (3, true), (4, true), (5, true), (6, true), (7, false), (8, true)] (by kernel_rfl) (by kernel_rfl) (by kernel_rfl) (by kernel_rfl) ⟨hat, trivial⟩ ?_
        simp only [List.map_cons, List.map_nil, List.getElem?_toArray, List.getElem?_cons_zero, List.getElem?_cons_succ]
        replace hb := hb.drew
        repeat (first | (refine Plan.take ?_ (by rfl) ?_ ?_; rotate_left; (· rintro w9 ⟨⟨u0, u1, u2, u3, u4, u5, u6, u7⟩, -⟩; go_simp; (try rw [if_neg (by omega)]); all_goals (with_reducible rfl)); simp only [Act.put, List.setIfInBounds_toArray, List.set_cons_zero, List.set_cons_succ]) | (refine Plan.pass (by rfl) ?_; simp only [Act.put, List.setIfInBounds_toArray, List.set_cons_zero, List.set_cons_succ]))
        refine Plan.call (by rfl) 99 _ ?_ (HRj.out _ hb) ?_
        · go_simp
        rintro r9 w2 ⟨rfl, h9⟩
        replace hb := hb.trans (h9.mono hb.size)
        clear h9
        refine ⟨_, rfl, ⟨HC.out _ hb, trivial⟩, ?_⟩
        simp only [Act.put, List.setIfInBounds_toArray, List.set_cons_zero, List.set_cons_succ]
        repeat (first | (refine Plan.take ?_ (by rfl) ?_ ?_; rotate_left; (· rintro w9 ⟨⟨u0, u1, u2, u3, u4, u5, u6, u7⟩, -⟩; go_simp; (try rw [if_neg (by omega)]); all_goals (with_reducible rfl)); simp only [Act.put, List.setIfInBounds_toArray, List.set_cons_zero, List.set_cons_succ]) | (refine Plan.pass (by rfl) ?_; simp only [Act.put, List.setIfInBounds_toArray, List.set_cons_zero, List.set_cons_succ]))
        refine Plan.ends ?_
        go_wp2_with fail
        go_ret
        exact ⟨r_i HX.out.symm, hb⟩
      · have HN := Lib.hid (fun i (hi : i < j + 1) => (show rightAt L i = true from by
          rcases Nat.lt_or_ge i j with h9 | h9
          · exact hall.out i h9
          · obtain rfl : i = j := by omega
            exact hst))
        clear hst
        go_upto_region 8 with fail
        refine Plan.start (fun W => EvAt W x j ⟨er, eq, es, ek, eb, ed, ee, ex⟩ ∧ True) [(0, true), (1, true), (2, true), (3, true), (4, true), (5, true), (6, true), (7, false), (8, true)] (by kernel_rfl) (by kernel_rfl) (by kernel_rfl) (by kernel_rfl) ⟨hat, trivial⟩ ?_
        simp only [List.map_cons, List.map_nil, List.getElem?_toArray, List.getElem?_cons_zero, List.getElem?_cons_succ]
        replace hb := hb.drew
        repeat (first | (refine Plan.take ?_ (by rfl) ?_ ?_; rotate_left; (· rintro w9 ⟨⟨u0, u1, u2, u3, u4, u5, u6, u7⟩, -⟩; go_simp; (try rw [if_neg (by omega)]); all_goals (with_reducible rfl)); simp only [Act.put, List.setIfInBounds_toArray, List.set_cons_zero, List.set_cons_succ]) | (refine Plan.pass (by rfl) ?_; simp only [Act.put, List.setIfInBounds_toArray, List.set_cons_zero, List.set_cons_succ]))
        refine Plan.call (by rfl) 99 _ ?_ (HRj.out _ hb) ?_
        · go_simp
        rintro r9 w2 ⟨rfl, h9⟩
        replace hb := hb.trans (h9.mono hb.size)
        clear h9
        refine ⟨_, rfl, ⟨HC.out _ hb, trivial⟩, ?_⟩
        simp only [Act.put, List.setIfInBounds_toArray, List.set_cons_zero, List.set_cons_succ]
        repeat (first | (refine Plan.take ?_ (by rfl) ?_ ?_; rotate_left; (· rintro w9 ⟨⟨u0, u1, u2, u3, u4, u5, u6, u7⟩, -⟩; go_simp; (try rw [if_neg (by omega)]); all_goals (with_reducible rfl)); simp only [Act.put, List.setIfInBounds_toArray, List.set_cons_zero, List.set_cons_succ]) | (refine Plan.pass (by rfl) ?_; simp only [Act.put, List.setIfInBounds_toArray, List.set_cons_zero, List.set_cons_succ]))
        refine Plan.ends ?_
        go_wp2_with fail
        go_roundw
        case rel => exact ⟨j + 1, by go_num, by omega, HN, hb⟩
        case measure => simp [intOf]; omega
    · obtain rfl : j = n := by omega
      have hjI : ¬ (j : Int) < (j : Int) := by omega
      have HX := Lib.hid (HGOOD.out (fun i hi => hall.out i (by omega)))
      go_wp2_with fail
      go_ret
      exact ⟨r_i HX.out.symm, hb⟩
end Go.Proofs.YtnmhnjjehglcfaaGreat.Ents
