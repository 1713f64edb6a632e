/- Texts that belong together, part 12. -/
import Derived.Test.YthhggiifbldaeaaPack11

/- The walks of the document's Held and New of locks. -/
namespace Go.Proofs.Ythhggiifbldaeaa.Ents
open Go.RowKit Plan EntMath CntMath LckMath
theorem append_int {w : World} {ops : Array Oper} {rest : List Oper} {o : Oper} {a : Act} {Q : Exit → Act → World → Prop} (hgd : o.guard = none) (s x : Operand)
    (ho : o.op = .call { callee := .builtin .append, args := #[s, x], argTypes := #[22, 22] })
    (base : Nat) (v : Value) (m0 : Nat) (Z : List Int) (hs : a.eval s = v) (hown : w.ownsRow base 3 1 v m0 (intC Z)) (g : Nat) (z : Int) (hx : a.eval x = .slice (some ⟨g, 0, none⟩) 1 1) (hg : w.heap[g]? = some (.cells #[.int .i64 z] 3 (0, 0))) (hm : m0 ≤ 900000) (hbase : base ≤ w.heap.size)
    (h : ∀ g' c' w', w'.ownsRow base 3 1 (.slice (some ⟨g', 0, none⟩) (m0 + 1) c') (m0 + 1) (intC (Z ++ [z])) → w.grownBy w' v.ownBlock → (v.ownBlock = some g' ∨ g' = w.heap.size) → wpList Try.prog ops Q rest (a.put o.dst (.slice (some ⟨g', 0, none⟩) (m0 + 1) c')) w') : wpList Try.prog ops Q (o :: rest) a w := by
  obtain ⟨i1, hi1, hy0, hy1, hy2⟩ := info_parts int_info
  have hL : ∀ j u, (intC [z])[j]? = some u → w.cell? ((⟨g, 0, none⟩ : Addr).add j) = some u := fun j u hu => by
    rw [Addr.add_lit, Nat.zero_add]
    exact (cell_of_row w g j _ _ _ hg).trans (by rw [List.getElem?_toArray]; exact hu)
  refine wpList_append_lies w hgd s x 22 ho base 3 i1 _ 1 8 Try.underlying22 hi1 hy0 hy1 hy2 rfl (by decide) v m0 (intC Z) hs hown ⟨g, 0, none⟩ 1 1 (intC [z]) hx rfl hL (intC_flat _) (by decide) (by unfold maxLen; omega) (by omega) hbase _ rfl ?_
  intro g' c' w' h1 h2 h3 _
  rw [show intC Z ++ intC [z] = intC (Z ++ [z]) from by simp [intC]] at h1
  exact h g' c' w' h1 h2 h3
/-- what Held leaves -/
def HeldPost (w : World) (Z : List Int) (r : Ending) (w' : World) : Prop := ∃ a n c, r = .returned (.slice a n c) ∧ IList w' (fun b => w.heap.size ≤ b) a n c Z ∧ Below w.heap.size w w'
/-- what New leaves -/
def LNewPost (w : World) (O : List Int) (E : Int) (r : Ending) (w' : World) : Prop := ∃ a n c, r = .returned (.tuple #[lckV a n c, .int .i64 E]) ∧ IList w' (fun b => w.heap.size ≤ b) a n c O ∧ Below w.heap.size w w'
theorem all_is {Z : List Int} {n : Nat} {v : Int} (h : Z.length = n) (hi : ∀ i : Nat, i < n → Z[i]? = some v) : Z = List.replicate n v := by
  refine List.ext_getElem? fun i => ?_
  rcases Nat.lt_or_ge i n with h1 | h1
  · rw [hi i h1, List.getElem?_replicate, if_pos h1]
  · rw [List.getElem?_eq_none (by omega), List.getElem?_eq_none (by simp; omega)]
end Go.Proofs.Ythhggiifbldaeaa.Ents

/- Epochs in memory. -/
namespace Go.Proofs.Ythhggiifbldaeaa.Ents
open Go.RowKit Plan EntMath CntMath EpoMath Rws
def RR : Row Ret := ⟨102, 37, 2, 16, .agg #[.int .i64 0, .int .i64 0], fun r => [.int .i64 r.zone, .int .i64 r.epoch]⟩
theorem rrOk : RR.Ok := ⟨fun _ => rfl, fun e u hu => by simp only [RR, List.mem_cons, List.not_mem_nil, or_false] at hu; rcases hu with rfl | rfl <;> rfl, by decide, by kernel_rfl, rfl, Try.underlying37, by decide⟩
abbrev RList := TList RR
abbrev retV (r : Ret) : Value := .agg #[.int .i64 r.zone, .int .i64 r.epoch]
abbrev retRow (z e : Int) : Obj := .cells #[.int .i64 z, .int .i64 e] 102
abbrev RetAt (w : World) (x : Addr) (i : Nat) (r : Ret) : Prop := w.cell? (x.add (i * 2)) = some (.int .i64 r.zone) ∧ w.cell? ⟨(x.add (i * 2)).block, (x.add (i * 2)).off + 1, none⟩ = some (.int .i64 r.epoch)
theorem ret_at {w : World} {F : Nat → Prop} {a : Option Addr} {n c : Nat} {L : List Ret} (h : RList w F a n c L) (i : Nat) (hi : i < n) : ∃ x r, a = some x ∧ L[i]? = some r ∧ RetAt w x i r := by
  obtain ⟨x, r, hx, hr, hc⟩ := h.at' rrOk i hi
  exact ⟨x, r, hx, hr, hc 0 _ rfl, by rw [← ent_add_off x (i * 2) 0]; exact hc 1 _ rfl⟩
abbrev epoV (g : Int) (a : Option Addr) (n c : Nat) (b : Option Addr) (m d : Nat) : Value := .agg #[.int .i64 g, .slice a n c, .slice b m d]
abbrev epoRow (g : Int) (a : Option Addr) (n c : Nat) (b : Option Addr) (m d : Nat) : Obj := .cells #[.int .i64 g, .slice a n c, .slice b m d] 39
theorem epo_info : (Try.prog.info? 39).map (·.size) = some 3 := by kernel_rfl
theorem ret_info : (Try.prog.info? 102).map (·.size) = some 2 := by kernel_rfl
theorem rets_info1 : (Try.prog.info? 37).map (·.size) = some 1 := by kernel_rfl
theorem three_row {w : World} {g : Nat} {a b c : Value} {t : TypeId} {fr : Nat × Nat} (h : w.heap[g]? = some (.cells #[a, b, c] t fr)) : w.cell? ⟨g, 0, none⟩ = some a ∧ w.cell? ⟨g, 1, none⟩ = some b ∧ w.cell? ⟨g, 2, none⟩ = some c := ⟨cell_of_row _ _ 0 _ _ _ h, cell_of_row _ _ 1 _ _ _ h, cell_of_row _ _ 2 _ _ _ h⟩
/-- epochs that lie in the blocks of a set -/
structure PList (w : World) (F : Nat → Prop) (g : Int) (a : Option Addr) (n c : Nat) (b : Option Addr) (m d : Nat) (E : Epo) : Prop where
  hg : E.glob = g
  p : IList w F a n c E.pins
  z : RList w F b m d E.zones
section
variable {w w' : World} {F G : Nat → Prop} {g : Int} {a b : Option Addr} {n c m d : Nat} {E : Epo}
theorem PList.on (h : PList w F g a n c b m d E) (hw : Same F w w') : PList w' F g a n c b m d E := ⟨h.hg, h.p.on hw, h.z.on hw⟩
theorem PList.mono (h : PList w F g a n c b m d E) (hFG : ∀ b, b < w.heap.size → F b → G b) : PList w G g a n c b m d E := ⟨h.hg, h.p.mono hFG, h.z.mono hFG⟩
theorem PList.cut (h : PList w F g a n c b m d E) : PList w (fun b => F b ∧ b < w.heap.size) g a n c b m d E := ⟨h.hg, h.p.cut, h.z.cut⟩
theorem PList.same (h : PList w F g a n c b m d E) (hb : Below w.heap.size w w') : PList w' (fun b => b < w.heap.size) g a n c b m d E := ⟨h.hg, h.p.same hb, h.z.same hb⟩
end
/-- what a function that changes epochs leaves -/
def EpoPost (w : World) (F : Nat → Prop) (E : Epo) (B : Bool) (r : Ending) (w' : World) : Prop :=
  ∃ g a n c b m d, r = .returned (.tuple #[epoV g a n c b m d, .bool B]) ∧ PList w' (Plus F w.heap.size) g a n c b m d E ∧ Below w.heap.size w w'
set_option maxHeartbeats 4000000 in
set_option maxRecDepth 20000 in
theorem refRetired_any (F : Nat → Prop) (E : Epo) (z : Int) (u : Nat) (g : Int) (a b : Option Addr) (n c m d : Nat) (w : World) (hl : PList w F g a n c b m d E) (hu : u ≤ m) :
    Calls Try.prog 40 #[epoV g a n c b m d, .int .i64 z, .int .i64 (u : Int)] w fun r w' => r = .returned (.bool (isRet (E.zones.take u) z)) ∧ Below w.heap.size w w' := by
  have hlen := hl.z.length
  have hA := (Below.refl w.heap.size w).alloc (Nat.le_refl _) (epoRow g a n c b m d)
  have hr0 := heap_alloc_new w (epoRow g a n c b m d)
  have HAT := Lib.hid (fun W (h : Below w.heap.size w W) i (hi : i < m) => ret_at (hl.z.same h) i hi)
  have HHERE := Lib.hid (fun j r (h : E.zones[j]? = some r) => @ret_here E.zones z j u r h)
  have HNEXT := Lib.hid (fun j r (h : E.zones[j]? = some r) => @ret_take E.zones z j r h)
  have H0 := Lib.hid (show isRet (E.zones.take 0) z = false from by simp [isRet])
  have hcp := hl.z.cap
  unfold maxLen at hcp
  clear hl
  go_enter Try.func40, Try.ntmps40
  generalize hw0 : w.alloc (epoRow g a n c b m d) = w0 at *
  go_wp2_with fail
  go_loopw [7] (fun x wr => ∃ j : Nat, x = .int .i64 (j : Int) ∧ j ≤ u ∧ RowKit.Hid (isRet (E.zones.take j) z = false) ∧ wr.heap[w.heap.size]? = some (epoRow g a n c b m d) ∧ Below w.heap.size w wr) (fun x _ => u - (intOf x).toNat)
  case atStart => exact ⟨0, rfl, by omega, H0, hr0, hA⟩
  case round =>
    clear hr0 hA
    obtain ⟨j, rfl, hj, hn, hr, hb⟩ := hrel
    by_cases hlt : j < u
    · obtain ⟨x, r, rfl, hz, hat⟩ := HAT.out wr hb j (by omega)
      have hjI : (j : Int) < (u : Int) := by omega
      have hjm : (j : Int) < (m : Int) := by omega
      obtain ⟨c0, c1, c2⟩ := three_row hr
      have HN := Lib.hid (HHERE.out j r hz hlt)
      have HX := Lib.hid (HNEXT.out j r hz)
      clear hz
      obtain ⟨rz, re⟩ := r
      obtain ⟨d0, d1⟩ := hat
      try simp only at d0 d1 HN HX
      by_cases hq : rz = z
      · have q1 : (rz == z) = true := by simpa using hq
        have HR := Lib.hid (HN.out hq)
        subst hq
        go_wp2_with fail
        go_ret
        exact ⟨i_b HR.out.symm, hb⟩
      · have q1 : (rz == z) = false := by simpa using hq
        have HY := Lib.hid (HX.out.trans (by rw [hn.out, decide_eq_false hq]))
        go_wp2_with fail
        go_roundw
        case rel => exact ⟨j + 1, by go_num, by omega, HY, hr, hb⟩
        case measure => simp [intOf]; omega
    · obtain rfl : j = u := by omega
      have hjI : ¬ (j : Int) < (j : Int) := by omega
      go_wp2_with fail
      go_ret
      exact ⟨i_b hn.out.symm, hb⟩
end Go.Proofs.Ythhggiifbldaeaa.Ents

/- The walk of the document's Valid of epochs. -/
namespace Go.Proofs.Ythhggiifbldaeaa.Ents
open Go.RowKit Plan EntMath CntMath EpoMath Rws
theorem pin_ways (G p : Int) : (p = -1) ∨ (p ≠ -1 ∧ p < 0) ∨ (p ≠ -1 ∧ ¬ p < 0 ∧ p = G) ∨ (p ≠ -1 ∧ ¬ p < 0 ∧ p ≠ G ∧ p = G - 1) ∨ (p ≠ -1 ∧ ¬ p < 0 ∧ p ≠ G ∧ p ≠ G - 1) := by omega
theorem head_ways (n : Nat) (g : Int) : (n < 1) ∨ (¬ n < 1 ∧ 4 < n) ∨ (¬ n < 1 ∧ ¬ 4 < n ∧ g < 0) ∨ (¬ n < 1 ∧ ¬ 4 < n ∧ ¬ g < 0 ∧ 1099511627776 < g) ∨ (¬ n < 1 ∧ ¬ 4 < n ∧ ¬ g < 0 ∧ ¬ 1099511627776 < g) := by omega
set_option maxHeartbeats 8000000 in
set_option maxRecDepth 20000 in
theorem refEValid_any (F : Nat → Prop) (E : Epo) (g : Int) (a b : Option Addr) (n c m d : Nat) (w : World) (hl : PList w F g a n c b m d E) :
    Calls Try.prog 39 #[epoV g a n c b m d] w fun r w' => r = .returned (.bool (validE E)) ∧ Below w.heap.size w w' := by
  have hlen := hl.p.length
  have hlen2 := hl.z.length
  obtain rfl := hl.hg
  have hA := (Below.refl w.heap.size w).alloc (Nat.le_refl _) (epoRow E.glob a n c b m d)
  have hr0 := heap_alloc_new w (epoRow E.glob a n c b m d)
  have HP := Lib.hid (fun W (h : Below w.heap.size w W) i (hi : i < n) => (hl.p.same h).at' i hi)
  have HZ := Lib.hid (fun W (h : Below w.heap.size w W) i (hi : i < m) => ret_at (hl.z.same h) i hi)
  have HRT := Lib.hid (fun (u : Nat) (hu : u ≤ m) (z : Int) W (h : Below w.heap.size w W) => refRetired_any _ E z u E.glob a b n c m d W (hl.same h) hu)
  have hres : validE E = (okHead E && E.pins.all (okPin E.glob) && okRets E.glob E.zones) := rfl
  have hcp := hl.p.cap
  have hcp2 := hl.z.cap
  unfold maxLen at hcp hcp2
  have hh : okHead E = (decide (1 ≤ n) && decide (n ≤ 4) && decide (0 ≤ E.glob) && decide (E.glob ≤ 1099511627776)) := by unfold okHead; rw [hlen]
  rw [hres]
  clear hl hres
  have hpb := fun j p (he : E.pins[j]? = some p) => @all_bad Int (okPin E.glob) E.pins j p he
  have hpg := @all_good Int (okPin E.glob) E.pins
  have hzb := fun i (hi : i < E.zones.length) => @okRets_bad E.glob E.zones i hi
  have hzg := @okRets_all E.glob E.zones
  have hza := fun i r (h : E.zones[i]? = some r) => @okRet_at E.glob E.zones i r h
  rw [hlen2] at hzg
  obtain ⟨R, hR⟩ : ∃ R, R = (okHead E && E.pins.all (okPin E.glob) && okRets E.glob E.zones) := ⟨_, rfl⟩
  rw [← hR]
  rw [hh] at hR
  generalize E.pins.all (okPin E.glob) = A at *
  generalize okRets E.glob E.zones = B at *
  generalize hge : E.glob = g at *
  have hgb := hge
  clear hge hh
  have HR := Lib.hid hR
  have HPB := Lib.hid hpb
  have HPG := Lib.hid hpg
  have HZB := Lib.hid hzb
  have HZG := Lib.hid hzg
  have HZA := Lib.hid hza
  clear hR hpb hpg hzb hzg hza hgb
  rcases head_ways n g with q1 | ⟨q1, q2⟩ | ⟨q1, q2, q3⟩ | ⟨q1, q2, q3, q4⟩ | ⟨q1, q2, q3, q4⟩
  · have k1 : decide (1 ≤ n) = false := by simp; omega
    have hR := Lib.hid (show R = false from by rw [HR.out, k1]; simp)
    have p1 : decide (n < 1) = true := by simp; omega
    have p1i : decide ((n : Int) < (1 : Int)) = true := by simp; omega
    go_enter Try.func39, Try.ntmps39
    obtain ⟨c0, c1, c2⟩ := three_row hr0
    generalize hw0 : w.alloc (epoRow g a n c b m d) = w0 at *
    go_wp2_with fail
    go_ret
    exact ⟨i_b (by rw [hR.out]), hA⟩
  · have k1 : decide (n ≤ 4) = false := by simp; omega
    have hR := Lib.hid (show R = false from by rw [HR.out, k1]; simp)
    have p1 : decide (n < 1) = false := by simp; omega
    have p1i : decide ((n : Int) < (1 : Int)) = false := by simp; omega
    have p2 : decide (4 < n) = true := by simp; omega
    have p2i : decide ((4 : Int) < (n : Int)) = true := by simp; omega
    go_enter Try.func39, Try.ntmps39
    obtain ⟨c0, c1, c2⟩ := three_row hr0
    generalize hw0 : w.alloc (epoRow g a n c b m d) = w0 at *
    go_wp2_with fail
    go_ret
    exact ⟨i_b (by rw [hR.out]), hA⟩
  · have k1 : decide (0 ≤ g) = false := by simp; omega
    have hR := Lib.hid (show R = false from by rw [HR.out, k1]; simp)
    have p1 : decide (n < 1) = false := by simp; omega
    have p1i : decide ((n : Int) < (1 : Int)) = false := by simp; omega
    have p2 : decide (4 < n) = false := by simp; omega
    have p2i : decide ((4 : Int) < (n : Int)) = false := by simp; omega
    have p3 : decide (g < 0) = true := by simp; omega
    go_enter Try.func39, Try.ntmps39
    obtain ⟨c0, c1, c2⟩ := three_row hr0
    generalize hw0 : w.alloc (epoRow g a n c b m d) = w0 at *
    go_wp2_with fail
    go_ret
    exact ⟨i_b (by rw [hR.out]), hA⟩
  · have k1 : decide (g ≤ 1099511627776) = false := by simp; omega
    have hR := Lib.hid (show R = false from by rw [HR.out, k1]; simp)
    have p1 : decide (n < 1) = false := by simp; omega
    have p1i : decide ((n : Int) < (1 : Int)) = false := by simp; omega
    have p2 : decide (4 < n) = false := by simp; omega
    have p2i : decide ((4 : Int) < (n : Int)) = false := by simp; omega
    have p3 : decide (g < 0) = false := by simp; omega
    have p4 : decide (1099511627776 < g) = true := by simp; omega
    go_enter Try.func39, Try.ntmps39
    obtain ⟨c0, c1, c2⟩ := three_row hr0
    generalize hw0 : w.alloc (epoRow g a n c b m d) = w0 at *
    go_wp2_with fail
    go_ret
    exact ⟨i_b (by rw [hR.out]), hA⟩
  · have k1 : (decide (1 ≤ n) && decide (n ≤ 4) && decide (0 ≤ g) && decide (g ≤ 1099511627776)) = true := by simp; omega
    have hR9 := Lib.hid (show R = (A && B) from by rw [HR.out, k1]; simp)
    clear k1 HR
    have p1 : decide (n < 1) = false := by simp; omega
    have p1i : decide ((n : Int) < (1 : Int)) = false := by simp; omega
    have p2 : decide (4 < n) = false := by simp; omega
    have p2i : decide ((4 : Int) < (n : Int)) = false := by simp; omega
    have p3 : decide (g < 0) = false := by simp; omega
    have p4 : decide (1099511627776 < g) = false := by simp; omega
    have wg : wrap64 (g - 1) = g - 1 := by unfold wrap64; omega
    have wg2 : IntKind.i64.wrap (g - 1) = g - 1 := IntWalk.i64_in _ (by omega)
    go_enter Try.func39, Try.ntmps39
    obtain ⟨c0, c1, c2⟩ := three_row hr0
    generalize hw0 : w.alloc (epoRow g a n c b m d) = w0 at *
    go_wp2_with fail
    clear c0 c1 c2
    go_loopw [3] (fun x wr => ∃ j : Nat, x = .int .i64 (j : Int) ∧ j ≤ n ∧ RowKit.Hid (∀ (i : Nat) (p : Int), i < j → E.pins[i]? = some p → okPin g p = true) ∧ wr.heap[w.heap.size]? = some (epoRow g a n c b m d) ∧ Below w.heap.size w wr) (fun x _ => n - (intOf x).toNat)
    case atStart => exact ⟨0, rfl, by omega, Lib.hid (fun i p h => absurd h (Nat.not_lt_zero _)), hr0, hA⟩
    case round =>
      clear hr0 hA
      obtain ⟨j, rfl, hj, hbf, hr, hb⟩ := hrel
      obtain ⟨c0, c1, c2⟩ := three_row hr
      by_cases hlt : j < n
      · obtain ⟨x, p, rfl, hz, hcx⟩ := HP.out wr hb j hlt
        have hjI : (j : Int) < (n : Int) := by omega
        have NB := Lib.hid (HPB.out j p hz)
        have NX := Lib.hid (fun (h0 : okPin g p = true) (i : Nat) (y : Int) (hi : i < j + 1) (h : E.pins[i]? = some y) => (show okPin g y = true from by
          rcases Nat.lt_or_ge i j with h1 | h1
          · exact hbf.out i y h1 h
          · obtain rfl : i = j := by omega
            rw [hz] at h
            obtain rfl := Option.some.inj h
            exact h0))
        clear hz
        rcases pin_ways g p with q5 | ⟨q5, q6⟩ | ⟨q5, q6, q7⟩ | ⟨q5, q6, q7, q8⟩ | ⟨q5, q6, q7, q8⟩
        · have HN := Lib.hid (NX.out (by unfold okPin; simp [q5]))
          have t1 : (p != -1) = false := by simpa using q5
          go_wp2_with fail
          go_roundw
          case rel => exact ⟨j + 1, by go_num, by omega, HN, hr, hb⟩
          case measure => simp [intOf]; omega
        · have hR := Lib.hid (show R = false from by rw [hR9.out, NB.out (by unfold okPin; simp; omega), Bool.false_and])
          have t1 : (p != -1) = true := by simpa using q5
          have t2 : decide (p < 0) = true := by simpa using q6
          go_wp2_with fail
          go_ret
          exact ⟨i_b (by rw [hR.out]), hb⟩
        · have HN := Lib.hid (NX.out (by unfold okPin; simp; omega))
          have t1 : (p != -1) = true := by simpa using q5
          have t2 : decide (p < 0) = false := by simp; omega
          have t3 : (p != g) = false := by simpa using q7
          go_wp2_with fail
          go_roundw
          case rel => exact ⟨j + 1, by go_num, by omega, HN, hr, hb⟩
          case measure => simp [intOf]; omega
        · have HN := Lib.hid (NX.out (by unfold okPin; simp; omega))
          have t1 : (p != -1) = true := by simpa using q5
          have t2 : decide (p < 0) = false := by simp; omega
          have t3 : (p != g) = true := by simpa using q7
          have t4 : (p != g - 1) = false := by simpa using q8
          go_wp2_with fail
          go_roundw
          case rel => exact ⟨j + 1, by go_num, by omega, HN, hr, hb⟩
          case measure => simp [intOf]; omega
        · have hR := Lib.hid (show R = false from by rw [hR9.out, NB.out (by unfold okPin; simp; omega), Bool.false_and])
          have t1 : (p != -1) = true := by simpa using q5
          have t2 : decide (p < 0) = false := by simp; omega
          have t3 : (p != g) = true := by simpa using q7
          have t4 : (p != g - 1) = true := by simpa using q8
          go_wp2_with fail
          go_ret
          exact ⟨i_b (by rw [hR.out]), hb⟩
      · obtain rfl : j = n := by omega
        have hjI : ¬ (j : Int) < (j : Int) := by omega
        have hA1 := HPG.out (fun i p hp => hbf.out i p (by have := (List.getElem?_eq_some_iff.1 hp).1; omega) hp)
        have hR8 := Lib.hid (show R = B from by rw [hR9.out, hA1, Bool.true_and])
        clear hR9 hA1 hbf HP HPB HPG
        go_wp2_with fail
        clear c0 c1 c2
        go_loopw [5] (fun x wr => ∃ i : Nat, x = .int .i64 (i : Int) ∧ i ≤ m ∧ RowKit.Hid (∀ k : Nat, k < i → okRet g E.zones k = true) ∧ wr.heap[w.heap.size]? = some (epoRow g a j c b m d) ∧ Below w.heap.size w wr) (fun x _ => m - (intOf x).toNat)
        case atStart => exact ⟨0, rfl, by omega, Lib.hid (fun k h => absurd h (Nat.not_lt_zero _)), hr, hb⟩
        case round =>
          clear hr hb
          obtain ⟨i, rfl, hi, hbf, hr, hb⟩ := hrel
          obtain ⟨c0, c1, c2⟩ := three_row hr
          by_cases hlt : i < m
          · obtain ⟨x, r, rfl, hz, hat⟩ := HZ.out wr hb i hlt
            have hiI : (i : Int) < (m : Int) := by omega
            have HRA := Lib.hid (fun W (h : Below w.heap.size w W) => (show RetAt W x i r from by obtain ⟨x', r', e1, e2, e3⟩ := HZ.out W h i hlt; obtain rfl := Option.some.inj e1; rw [hz] at e2; obtain rfl := Option.some.inj e2; exact e3))
            have HBAD := Lib.hid (HZB.out i (by omega))
            have HOK := Lib.hid (HZA.out i r hz)
            have HNX := Lib.hid (fun (h0 : okRet g E.zones i = true) (k : Nat) (hk : k < i + 1) => (show okRet g E.zones k = true from by
              rcases Nat.lt_or_ge k i with h1 | h1
              · exact hbf.out k h1
              · obtain rfl : k = i := by omega
                exact h0))
            obtain ⟨rz, re⟩ := r
            have HRT := Lib.hid (fun (u : Nat) (hu : u ≤ m) W (h : Below w.heap.size w W) => HRT.out u hu rz W h)
            clear hz
            generalize okRet g E.zones i = K at *
            try simp only at HOK hat HRA
            rcases (show (re < 0) ∨ (¬ re < 0 ∧ g < re) ∨ (¬ re < 0 ∧ ¬ g < re ∧ rz < 0) ∨ (¬ re < 0 ∧ ¬ g < re ∧ ¬ rz < 0) by omega) with q5 | ⟨q5, q6⟩ | ⟨q5, q6, q7⟩ | ⟨q5, q6, q7⟩
            · have hR := Lib.hid (show R = false from by rw [hR8.out]; exact HBAD.out (by rw [HOK.out, decide_eq_false (show ¬ 0 ≤ re by omega)]; simp))
              have t1 : decide (re < 0) = true := by simpa using q5
              go_wp2_with fail
              refine Plan.start (fun W => (W.cell? ⟨w.heap.size, 0, none⟩ = some (.int .i64 g) ∧ W.cell? ⟨w.heap.size, 1, none⟩ = some (.slice a j c) ∧ W.cell? ⟨w.heap.size, 2, none⟩ = some (.slice (some x) m d)) ∧ RetAt W x i ⟨rz, re⟩) [(0, true), (1, true), (2, true), (3, true), (4, true), (5, true), (6, true), (7, true), (8, true), (9, true), (10, true), (11, true), (12, true), (13, true), (14, true), (15, true), (16, true), (17, true), (18, true), (19, true), (20, true), (21, true), (22, true), (23, true), (24, true), (25, true), (26, true), (27, true), (28, true), (29, true), (30, true), (31, true), (32, true), (33, true), (34, true), (35, true), (36, false), (37, true)] (by kernel_rfl) (by kernel_rfl) (by kernel_rfl) (by kernel_rfl) ⟨three_row hr, hat⟩ ?_
              simp only [List.map_cons, List.map_nil, List.getElem?_toArray, List.getElem?_cons_zero, List.getElem?_cons_succ]
              repeat (first | (refine Plan.take ?_ (by rfl) ?_ ?_; rotate_left; (· rintro w9 ⟨⟨u0, u1, u2⟩, u3, u4⟩; go_simp; (try rw [if_neg (by omega)]); all_goals (with_reducible rfl)); simp only [Act.put, List.setIfInBounds_toArray, List.set_cons_zero, List.set_cons_succ]) | (refine Plan.pass (by rfl) ?_; simp only [Act.put, List.setIfInBounds_toArray, List.set_cons_zero, List.set_cons_succ]))
              have hb2 := hb.drew
              have hr2 : wr.drew.heap[w.heap.size]? = _ := hr
              refine Plan.pass' (by rfl) ⟨three_row hr, hat⟩ ?_
              simp only [Act.put, List.setIfInBounds_toArray, List.set_cons_zero, List.set_cons_succ]
              repeat (first | (refine Plan.take ?_ (by rfl) ?_ ?_; rotate_left; (· rintro w9 ⟨⟨u0, u1, u2⟩, u3, u4⟩; go_simp; (try rw [if_neg (by omega)]); all_goals (with_reducible rfl)); simp only [Act.put, List.setIfInBounds_toArray, List.set_cons_zero, List.set_cons_succ]) | (refine Plan.pass (by rfl) ?_; simp only [Act.put, List.setIfInBounds_toArray, List.set_cons_zero, List.set_cons_succ]))
              refine Plan.ends ?_
              clear hr hb hat HRT HRA
              go_wp2_with fail
              go_ret
              exact ⟨i_b (by rw [hR.out]), hb2⟩
            · have hR := Lib.hid (show R = false from by rw [hR8.out]; exact HBAD.out (by rw [HOK.out, decide_eq_false (show ¬ re ≤ g by omega)]; simp))
              have t1 : decide (re < 0) = false := by simp; omega
              have t2 : decide (g < re) = true := by simpa using q6
              go_wp2_with fail
              refine Plan.start (fun W => (W.cell? ⟨w.heap.size, 0, none⟩ = some (.int .i64 g) ∧ W.cell? ⟨w.heap.size, 1, none⟩ = some (.slice a j c) ∧ W.cell? ⟨w.heap.size, 2, none⟩ = some (.slice (some x) m d)) ∧ RetAt W x i ⟨rz, re⟩) [(0, true), (1, true), (2, true), (3, true), (4, true), (5, true), (6, true), (7, true), (8, true), (9, true), (10, true), (11, true), (12, true), (13, true), (14, true), (15, true), (16, true), (17, true), (18, true), (19, true), (20, true), (21, true), (22, true), (23, true), (24, true), (25, true), (26, true), (27, true), (28, true), (29, true), (30, true), (31, true), (32, true), (33, true), (34, true), (35, true), (36, false), (37, true)] (by kernel_rfl) (by kernel_rfl) (by kernel_rfl) (by kernel_rfl) ⟨three_row hr, hat⟩ ?_
              simp only [List.map_cons, List.map_nil, List.getElem?_toArray, List.getElem?_cons_zero, List.getElem?_cons_succ]
              repeat (first | (refine Plan.take ?_ (by rfl) ?_ ?_; rotate_left; (· rintro w9 ⟨⟨u0, u1, u2⟩, u3, u4⟩; go_simp; (try rw [if_neg (by omega)]); all_goals (with_reducible rfl)); simp only [Act.put, List.setIfInBounds_toArray, List.set_cons_zero, List.set_cons_succ]) | (refine Plan.pass (by rfl) ?_; simp only [Act.put, List.setIfInBounds_toArray, List.set_cons_zero, List.set_cons_succ]))
              have hb2 := hb.drew
              have hr2 : wr.drew.heap[w.heap.size]? = _ := hr
              refine Plan.pass' (by rfl) ⟨three_row hr, hat⟩ ?_
              simp only [Act.put, List.setIfInBounds_toArray, List.set_cons_zero, List.set_cons_succ]
              repeat (first | (refine Plan.take ?_ (by rfl) ?_ ?_; rotate_left; (· rintro w9 ⟨⟨u0, u1, u2⟩, u3, u4⟩; go_simp; (try rw [if_neg (by omega)]); all_goals (with_reducible rfl)); simp only [Act.put, List.setIfInBounds_toArray, List.set_cons_zero, List.set_cons_succ]) | (refine Plan.pass (by rfl) ?_; simp only [Act.put, List.setIfInBounds_toArray, List.set_cons_zero, List.set_cons_succ]))
              refine Plan.ends ?_
              clear hr hb hat HRT HRA
              go_wp2_with fail
              go_ret
              exact ⟨i_b (by rw [hR.out]), hb2⟩
            · have hR := Lib.hid (show R = false from by rw [hR8.out]; exact HBAD.out (by rw [HOK.out, decide_eq_false (show ¬ 0 ≤ rz by omega)]; simp))
              have t1 : decide (re < 0) = false := by simp; omega
              have t2 : decide (g < re) = false := by simp; omega
              have t3 : decide (rz < 0) = true := by simpa using q7
              go_wp2_with fail
              refine Plan.start (fun W => (W.cell? ⟨w.heap.size, 0, none⟩ = some (.int .i64 g) ∧ W.cell? ⟨w.heap.size, 1, none⟩ = some (.slice a j c) ∧ W.cell? ⟨w.heap.size, 2, none⟩ = some (.slice (some x) m d)) ∧ RetAt W x i ⟨rz, re⟩) [(0, true), (1, true), (2, true), (3, true), (4, true), (5, true), (6, true), (7, true), (8, true), (9, true), (10, true), (11, true), (12, true), (13, true), (14, true), (15, true), (16, true), (17, true), (18, true), (19, true), (20, true), (21, true), (22, true), (23, true), (24, true), (25, true), (26, true), (27, true), (28, true), (29, true), (30, true), (31, true), (32, true), (33, true), (34, true), (35, true), (36, false), (37, true)] (by kernel_rfl) (by kernel_rfl) (by kernel_rfl) (by kernel_rfl) ⟨three_row hr, hat⟩ ?_
              simp only [List.map_cons, List.map_nil, List.getElem?_toArray, List.getElem?_cons_zero, List.getElem?_cons_succ]
              repeat (first | (refine Plan.take ?_ (by rfl) ?_ ?_; rotate_left; (· rintro w9 ⟨⟨u0, u1, u2⟩, u3, u4⟩; go_simp; (try rw [if_neg (by omega)]); all_goals (with_reducible rfl)); simp only [Act.put, List.setIfInBounds_toArray, List.set_cons_zero, List.set_cons_succ]) | (refine Plan.pass (by rfl) ?_; simp only [Act.put, List.setIfInBounds_toArray, List.set_cons_zero, List.set_cons_succ]))
              have hb2 := hb.drew
              have hr2 : wr.drew.heap[w.heap.size]? = _ := hr
              refine Plan.pass' (by rfl) ⟨three_row hr, hat⟩ ?_
              simp only [Act.put, List.setIfInBounds_toArray, List.set_cons_zero, List.set_cons_succ]
              repeat (first | (refine Plan.take ?_ (by rfl) ?_ ?_; rotate_left; (· rintro w9 ⟨⟨u0, u1, u2⟩, u3, u4⟩; go_simp; (try rw [if_neg (by omega)]); all_goals (with_reducible rfl)); simp only [Act.put, List.setIfInBounds_toArray, List.set_cons_zero, List.set_cons_succ]) | (refine Plan.pass (by rfl) ?_; simp only [Act.put, List.setIfInBounds_toArray, List.set_cons_zero, List.set_cons_succ]))
              refine Plan.ends ?_
              clear hr hb hat HRT HRA
              go_wp2_with fail
              go_ret
              exact ⟨i_b (by rw [hR.out]), hb2⟩
            · have t1 : decide (re < 0) = false := by simp; omega
              have t2 : decide (g < re) = false := by simp; omega
              have t3 : decide (rz < 0) = false := by simp; omega
              cases hq : isRet (E.zones.take i) rz
              · have HN := Lib.hid (HNX.out (by rw [HOK.out, hq, decide_eq_true (show 0 ≤ re by omega), decide_eq_true (show re ≤ g by omega), decide_eq_true (show 0 ≤ rz by omega)]; rfl))
                have HRTi := HRT.out i (by omega)
                rw [hq] at HRTi
                have HRT := Lib.hid HRTi
                clear HRTi hq HOK
                go_wp2_with fail
                refine Plan.start (fun W => (W.cell? ⟨w.heap.size, 0, none⟩ = some (.int .i64 g) ∧ W.cell? ⟨w.heap.size, 1, none⟩ = some (.slice a j c) ∧ W.cell? ⟨w.heap.size, 2, none⟩ = some (.slice (some x) m d)) ∧ RetAt W x i ⟨rz, re⟩) [(0, true), (1, true), (2, true), (3, true), (4, true), (5, true), (6, true), (7, true), (8, true), (9, true), (10, true), (11, true), (12, true), (13, true), (14, true), (15, true), (16, true), (17, true), (18, true), (19, true), (20, true), (21, true), (22, true), (23, true), (24, true), (25, true), (26, true), (27, true), (28, true), (29, true), (30, true), (31, true), (32, true), (33, true), (34, true), (35, true), (36, false), (37, true)] (by kernel_rfl) (by kernel_rfl) (by kernel_rfl) (by kernel_rfl) ⟨three_row hr, hat⟩ ?_
                simp only [List.map_cons, List.map_nil, List.getElem?_toArray, List.getElem?_cons_zero, List.getElem?_cons_succ]
                repeat (first | (refine Plan.take ?_ (by rfl) ?_ ?_; rotate_left; (· rintro w9 ⟨⟨u0, u1, u2⟩, u3, u4⟩; go_simp; (try rw [if_neg (by omega)]); all_goals (with_reducible rfl)); simp only [Act.put, List.setIfInBounds_toArray, List.set_cons_zero, List.set_cons_succ]) | (refine Plan.pass (by rfl) ?_; simp only [Act.put, List.setIfInBounds_toArray, List.set_cons_zero, List.set_cons_succ]))
                refine Plan.call (by rfl) 40 _ ?_ (HRT.out _ hb.drew) ?_
                · go_simp
                rintro r9 w2 ⟨rfl, h2⟩
                have hb2 := hb.drew.trans (h2.mono hb.drew.size)
                have hr2 := e_on h2 (show wr.drew.heap[w.heap.size]? = _ from hr) (e_lt hr)
                refine ⟨_, rfl, ⟨three_row hr2, HRA.out w2 hb2⟩, ?_⟩
                simp only [Act.put, List.setIfInBounds_toArray, List.set_cons_zero, List.set_cons_succ]
                repeat (first | (refine Plan.take ?_ (by rfl) ?_ ?_; rotate_left; (· rintro w9 ⟨⟨u0, u1, u2⟩, u3, u4⟩; go_simp; (try rw [if_neg (by omega)]); all_goals (with_reducible rfl)); simp only [Act.put, List.setIfInBounds_toArray, List.set_cons_zero, List.set_cons_succ]) | (refine Plan.pass (by rfl) ?_; simp only [Act.put, List.setIfInBounds_toArray, List.set_cons_zero, List.set_cons_succ]))
                refine Plan.ends ?_
                clear hr hb hat HRT HRA
                go_wp2_with fail
                go_roundw
                case rel => exact ⟨i + 1, by go_num, by omega, HN, hr2, hb2⟩
                case measure => simp [intOf]; omega
              · have hR := Lib.hid (show R = false from by rw [hR8.out]; exact HBAD.out (by rw [HOK.out, hq]; simp))
                have HRTi := HRT.out i (by omega)
                rw [hq] at HRTi
                have HRT := Lib.hid HRTi
                clear HRTi hq HOK
                go_wp2_with fail
                refine Plan.start (fun W => (W.cell? ⟨w.heap.size, 0, none⟩ = some (.int .i64 g) ∧ W.cell? ⟨w.heap.size, 1, none⟩ = some (.slice a j c) ∧ W.cell? ⟨w.heap.size, 2, none⟩ = some (.slice (some x) m d)) ∧ RetAt W x i ⟨rz, re⟩) [(0, true), (1, true), (2, true), (3, true), (4, true), (5, true), (6, true), (7, true), (8, true), (9, true), (10, true), (11, true), (12, true), (13, true), (14, true), (15, true), (16, true), (17, true), (18, true), (19, true), (20, true), (21, true), (22, true), (23, true), (24, true), (25, true), (26, true), (27, true), (28, true), (29, true), (30, true), (31, true), (32, true), (33, true), (34, true), (35, true), (36, false), (37, true)] (by kernel_rfl) (by kernel_rfl) (by kernel_rfl) (by kernel_rfl) ⟨three_row hr, hat⟩ ?_
                simp only [List.map_cons, List.map_nil, List.getElem?_toArray, List.getElem?_cons_zero, List.getElem?_cons_succ]
                repeat (first | (refine Plan.take ?_ (by rfl) ?_ ?_; rotate_left; (· rintro w9 ⟨⟨u0, u1, u2⟩, u3, u4⟩; go_simp; (try rw [if_neg (by omega)]); all_goals (with_reducible rfl)); simp only [Act.put, List.setIfInBounds_toArray, List.set_cons_zero, List.set_cons_succ]) | (refine Plan.pass (by rfl) ?_; simp only [Act.put, List.setIfInBounds_toArray, List.set_cons_zero, List.set_cons_succ]))
                refine Plan.call (by rfl) 40 _ ?_ (HRT.out _ hb.drew) ?_
                · go_simp
                rintro r9 w2 ⟨rfl, h2⟩
                have hb2 := hb.drew.trans (h2.mono hb.drew.size)
                have hr2 := e_on h2 (show wr.drew.heap[w.heap.size]? = _ from hr) (e_lt hr)
                refine ⟨_, rfl, ⟨three_row hr2, HRA.out w2 hb2⟩, ?_⟩
                simp only [Act.put, List.setIfInBounds_toArray, List.set_cons_zero, List.set_cons_succ]
                repeat (first | (refine Plan.take ?_ (by rfl) ?_ ?_; rotate_left; (· rintro w9 ⟨⟨u0, u1, u2⟩, u3, u4⟩; go_simp; (try rw [if_neg (by omega)]); all_goals (with_reducible rfl)); simp only [Act.put, List.setIfInBounds_toArray, List.set_cons_zero, List.set_cons_succ]) | (refine Plan.pass (by rfl) ?_; simp only [Act.put, List.setIfInBounds_toArray, List.set_cons_zero, List.set_cons_succ]))
                refine Plan.ends ?_
                clear hr hb hat HRT HRA
                go_wp2_with fail
                go_ret
                exact ⟨i_b (by rw [hR.out]), hb2⟩
          · obtain rfl : i = m := by omega
            have hiI : ¬ (i : Int) < (i : Int) := by omega
            have hR := Lib.hid (show R = true from by rw [hR8.out]; exact HZG.out (fun k hk => hbf.out k hk))
            go_wp2_with fail
            go_ret
            exact ⟨i_b (by rw [hR.out]), hb⟩
end Go.Proofs.Ythhggiifbldaeaa.Ents

/- The walks of the document's pin, Pin, Unpin of epochs. -/
namespace Go.Proofs.Ythhggiifbldaeaa.Ents
open Go.RowKit Plan EntMath CntMath EpoMath Rws
theorem heap2e (w : World) (p q : Obj) : Below w.heap.size w ((w.alloc p).alloc q) := ((Below.refl w.heap.size w).alloc (Nat.le_refl _) p).alloc (by simp) q
theorem Own.row2 {w : World} {B sz g n cap X : Nat} {t : TypeId} {L : List Value} (h : w.ownsRow B t sz (.slice (some ⟨g, 0, none⟩) n cap) n L) (cs : Array Value) (hX : X ≠ g) : (w.setRow X cs).ownsRow B t sz (.slice (some ⟨g, 0, none⟩) n cap) n L := by
  obtain ⟨h1, h2⟩ := h
  refine ⟨h1, ?_⟩
  rcases h2 with h3 | ⟨g', cap', cur, hv, hb, hg, h4⟩
  · exact .inl h3
  · cases hv
    exact .inr ⟨g, cap, cur, rfl, hb, (setRow_other w X g cs (Ne.symm hX)).trans hg, h4⟩
theorem in_no_e {E : Epo} {s : Int} {n : Nat} (h : validE E = false ∨ (validE E = true ∧ s < 0) ∨ (validE E = true ∧ ¬ s < 0 ∧ (n : Int) ≤ s)) (hn : E.pins.length = n) : inE E s = false := by
  cases hi : inE E s
  · rfl
  · have h1 := in_e.1 hi
    rcases h with h | ⟨_, h⟩ | ⟨_, h, h2⟩
    · rw [h1.1] at h; cases h
    · omega
    · omega
theorem in_three_e {E : Epo} {s : Int} {n : Nat} : (validE E = false ∨ (validE E = true ∧ s < 0) ∨ (validE E = true ∧ ¬ s < 0 ∧ (n : Int) ≤ s)) ∨ (validE E = true ∧ ∃ k : Nat, s = (k : Int) ∧ k < n) := by
  cases hv : validE E
  · exact .inl (.inl rfl)
  · by_cases h1 : s < 0
    · exact .inl (.inr (.inl ⟨rfl, h1⟩))
    · by_cases h2 : (n : Int) ≤ s
      · exact .inl (.inr (.inr ⟨rfl, h1, h2⟩))
      · exact .inr ⟨rfl, s.toNat, by omega, by omega⟩
end Go.Proofs.Ythhggiifbldaeaa.Ents

/- The walk of the document's Retire of epochs. -/
namespace Go.Proofs.Ythhggiifbldaeaa.Ents
open Go.RowKit Plan EntMath CntMath EpoMath Rws
/-- where a walk with a box of epochs and a result stands -/
structure EpoW (w W : World) (XR : Obj) : Prop where
  hx : W.heap[w.heap.size]? = some XR
  hr : W.heap[w.heap.size + 1]? = some (epoRow 0 none 0 0 none 0 0)
  hb : Below w.heap.size w W
theorem EpoW.start (w : World) (XR : Obj) : EpoW w ((w.alloc XR).alloc (epoRow 0 none 0 0 none 0 0)) XR := ⟨heap_first w _ _, heap_second w _ _, heap2e w _ _⟩
theorem EpoW.on {w W W' : World} {XR : Obj} (K : EpoW w W XR) (h : Below W.heap.size W W') : EpoW w W' XR := ⟨e_on h K.hx (e_lt K.hx), e_on h K.hr (e_lt K.hr), K.hb.trans (h.mono K.hb.size)⟩
theorem EpoW.al {w W : World} {XR : Obj} (K : EpoW w W XR) (p : Obj) : EpoW w (W.alloc p) XR := K.on ((Below.refl _ _).alloc (Nat.le_refl _) p)
theorem EpoW.drew {w W : World} {XR : Obj} (K : EpoW w W XR) : EpoW w W.drew XR := K.on (Below.refl _ _).drew
theorem EpoW.lt {w W : World} {XR : Obj} (K : EpoW w W XR) : w.heap.size + 1 < W.heap.size := e_lt K.hr
theorem EpoW.grown {w W W' : World} {XR : Obj} {o : Option Nat} (K : EpoW w W XR) (h : W.grownBy W' o) (ho : ∀ z, o = some z → w.heap.size + 1 < z) : EpoW w W' XR :=
  ⟨(h.block _ (e_lt K.hx) (fun e => by have := ho _ e.symm; omega)).trans K.hx, (h.block _ (e_lt K.hr) (fun e => by have := ho _ e.symm; omega)).trans K.hr, K.hb.grown h K.hb.size (fun z hz => by have := ho z hz; omega)⟩
theorem EpoW.put {w W : World} {XR : Obj} {cs cs' : Array Value} (K : EpoW w W (.cells cs 39 (0, 0))) (hXR : XR = .cells cs' 39 (0, 0)) : EpoW w (W.setRow w.heap.size cs') XR := by
  subst hXR
  exact ⟨setRow_heap _ _ _ _ _ _ K.hx, (setRow_other _ _ _ _ (by omega)).trans K.hr, below_setRow K.hb (Nat.le_refl _) _⟩
theorem ret_cases {E : Epo} {z : Int} : (validE E = false) ∨ (validE E = true ∧ z < 0) ∨ (validE E = true ∧ ¬ z < 0 ∧ isRet E.zones z = true) ∨ (validE E = true ∧ ¬ z < 0 ∧ isRet E.zones z = false) := by
  cases hv : validE E
  · exact .inl rfl
  · by_cases h : z < 0
    · exact .inr (.inl ⟨rfl, h⟩)
    · cases hr : isRet E.zones z
      · exact .inr (.inr (.inr ⟨rfl, h, rfl⟩))
      · exact .inr (.inr (.inl ⟨rfl, h, rfl⟩))
set_option maxHeartbeats 8000000 in
set_option maxRecDepth 20000 in
theorem refRetire_any (F : Nat → Prop) (E : Epo) (z g : Int) (a b : Option Addr) (n c m d : Nat) (w : World) (hl : PList w F g a n c b m d E) (hm : m ≤ 100000) :
    Calls Try.prog 21 #[epoV g a n c b m d, .int .i64 z] w (EpoPost w F (retireE E z) (retireB E z)) := by
  have K := EpoW.start w (epoRow g a n c b m d)
  have hlen := hl.z.length
  have HV := Lib.hid (fun W (h : Below w.heap.size w W) => refEValid_any _ E g a b n c m d W (hl.same h))
  have HRT := Lib.hid (fun W (h : Below w.heap.size w W) => refRetired_any _ E z m g a b n c m d W (hl.same h) (Nat.le_refl _))
  rw [List.take_of_length_le (by omega)] at HRT
  have HEND := Lib.hid (fun W (h : Below w.heap.size w W) (cs : Array Value) => (show PList (W.setRow (w.heap.size + 1) cs) (Plus F w.heap.size) g a n c b m d E from
    ((hl.cut.on (Same.below (w' := W) h)).on (Same.row (r := w.heap.size + 1) (fun h9 => by have := h9.2; omega) cs)).mono (fun b _ h => .inl h.1)))
  rcases @ret_cases E z with hva | ⟨hva, h1⟩ | ⟨hva, h1, h2⟩ | ⟨hva, h1, h2⟩
  · have r1 : retireB E z = false := by unfold retireB; rw [hva]; rfl
    have r2 : retireE E z = E := by unfold retireE; rw [r1]; rfl
    rw [r1, r2]
    rw [hva] at HV
    clear hl r1 r2 hlen hva
    go_enter Try.func21, Try.ntmps21
    generalize hw0 : (w.alloc (epoRow g a n c b m d)).alloc (epoRow 0 none 0 0 none 0 0) = w0 at *
    go_wp2_with (first
      | ((with_reducible refine Plan.load_lit 39 (.tmp 2) (w.heap.size) ?_ K.hx Try.underlying39 ?_ ?_ ?_); (· rfl); (· rfl); (· exact epo_info); simp only [Act.put, List.setIfInBounds_toArray, List.set_cons_zero, List.set_cons_succ])
      | (go_at_call 39; ((with_reducible refine (HV.out _ K.hb).mono ?_); rintro r9 w1 ⟨rfl, h1⟩; have K1 := K.on h1; clear K hw0 HV h1; have K := K1; clear K1; obtain ⟨c0, c1, c2⟩ := three_row K.hx))
      | ((with_reducible refine Plan.load_lit 39 (.tmp 2) (w.heap.size) ?_ K.hx Try.underlying39 ?_ ?_ ?_); (· rfl); (· rfl); (· exact epo_info); simp only [Act.put, List.setIfInBounds_toArray, List.set_cons_zero, List.set_cons_succ])
      | ((with_reducible refine Plan.store_lit 39 (.tmp 4) _ (w.heap.size + 1) ?_ K.hr ?_ ?_ ?_ ?_ ?_ ?_); rotate_left; (· rfl); (· rfl); (· exact epo_info); (· rfl); (· simp [Value.oneCell']); simp only [Act.put]))
    exact bodyPost_ret (Plan.results_cell_tmp (p := 4) (q := 5) rfl _ _ _ _ _ _ _ rfl (setRow_heap _ _ _ _ _ _ K.hr) Try.underlying39 rfl epo_info) rfl ⟨_, _, _, _, _, _, _, rfl, HEND.out _ K.hb _, below_setRow K.hb (show w.heap.size ≤ w.heap.size + 1 by omega) _⟩
  · have r1 : retireB E z = false := by unfold retireB; rw [hva, decide_eq_false (show ¬ 0 ≤ z by omega)]; rfl
    have r2 : retireE E z = E := by unfold retireE; rw [r1]; rfl
    rw [r1, r2]
    rw [hva] at HV
    have t1 : decide (z < 0) = true := by simpa using h1
    clear hl r1 r2 hlen hva
    go_enter Try.func21, Try.ntmps21
    generalize hw0 : (w.alloc (epoRow g a n c b m d)).alloc (epoRow 0 none 0 0 none 0 0) = w0 at *
    go_wp2_with (first
      | ((with_reducible refine Plan.load_lit 39 (.tmp 2) (w.heap.size) ?_ K.hx Try.underlying39 ?_ ?_ ?_); (· rfl); (· rfl); (· exact epo_info); simp only [Act.put, List.setIfInBounds_toArray, List.set_cons_zero, List.set_cons_succ])
      | (go_at_call 39; ((with_reducible refine (HV.out _ K.hb).mono ?_); rintro r9 w1 ⟨rfl, h1⟩; have K1 := K.on h1; clear K hw0 HV h1; have K := K1; clear K1; obtain ⟨c0, c1, c2⟩ := three_row K.hx))
      | ((with_reducible refine Plan.load_lit 39 (.tmp 2) (w.heap.size) ?_ K.hx Try.underlying39 ?_ ?_ ?_); (· rfl); (· rfl); (· exact epo_info); simp only [Act.put, List.setIfInBounds_toArray, List.set_cons_zero, List.set_cons_succ])
      | ((with_reducible refine Plan.store_lit 39 (.tmp 4) _ (w.heap.size + 1) ?_ K.hr ?_ ?_ ?_ ?_ ?_ ?_); rotate_left; (· rfl); (· rfl); (· exact epo_info); (· rfl); (· simp [Value.oneCell']); simp only [Act.put]))
    exact bodyPost_ret (Plan.results_cell_tmp (p := 4) (q := 5) rfl _ _ _ _ _ _ _ rfl (setRow_heap _ _ _ _ _ _ K.hr) Try.underlying39 rfl epo_info) rfl ⟨_, _, _, _, _, _, _, rfl, HEND.out _ K.hb _, below_setRow K.hb (show w.heap.size ≤ w.heap.size + 1 by omega) _⟩
  · have r1 : retireB E z = false := by unfold retireB; rw [h2]; simp
    have r2 : retireE E z = E := by unfold retireE; rw [r1]; rfl
    rw [r1, r2]
    rw [hva] at HV
    rw [h2] at HRT
    have t1 : decide (z < 0) = false := by simp; omega
    clear hl r1 r2 hlen hva h2
    go_enter Try.func21, Try.ntmps21
    generalize hw0 : (w.alloc (epoRow g a n c b m d)).alloc (epoRow 0 none 0 0 none 0 0) = w0 at *
    go_wp2_with (first
      | ((with_reducible refine Plan.load_lit 39 (.tmp 2) (w.heap.size) ?_ K.hx Try.underlying39 ?_ ?_ ?_); (· rfl); (· rfl); (· exact epo_info); simp only [Act.put, List.setIfInBounds_toArray, List.set_cons_zero, List.set_cons_succ])
      | (go_at_call 39; ((with_reducible refine (HV.out _ K.hb).mono ?_); rintro r9 w1 ⟨rfl, h1⟩; have K1 := K.on h1; clear K hw0 HV h1; have K := K1; clear K1; obtain ⟨c0, c1, c2⟩ := three_row K.hx))
      | ((with_reducible refine load_lit_gc 39 (.tmp 2) (w.heap.size) ?_ ?_ K.hx Try.underlying39 ?_ ?_ ?_); (· rfl); (· rfl); (· rfl); (· exact epo_info); simp only [Act.put, List.setIfInBounds_toArray, List.set_cons_zero, List.set_cons_succ])
      | (go_at_call 40; ((with_reducible refine (HRT.out _ K.hb).mono ?_); rintro r9 w2 ⟨rfl, h1⟩; have K1 := K.on h1; clear K h1 HRT c0 c1 c2; have K := K1; clear K1))
      | ((with_reducible refine Plan.load_lit 39 (.tmp 2) (w.heap.size) ?_ K.hx Try.underlying39 ?_ ?_ ?_); (· rfl); (· rfl); (· exact epo_info); simp only [Act.put, List.setIfInBounds_toArray, List.set_cons_zero, List.set_cons_succ])
      | ((with_reducible refine Plan.store_lit 39 (.tmp 4) _ (w.heap.size + 1) ?_ K.hr ?_ ?_ ?_ ?_ ?_ ?_); rotate_left; (· rfl); (· rfl); (· exact epo_info); (· rfl); (· simp [Value.oneCell']); simp only [Act.put]))
    exact bodyPost_ret (Plan.results_cell_tmp (p := 4) (q := 5) rfl _ _ _ _ _ _ _ rfl (setRow_heap _ _ _ _ _ _ K.hr) Try.underlying39 rfl epo_info) rfl ⟨_, _, _, _, _, _, _, rfl, HEND.out _ K.hb _, below_setRow K.hb (show w.heap.size ≤ w.heap.size + 1 by omega) _⟩
  · have r1 : retireB E z = true := by unfold retireB; rw [hva, h2, decide_eq_true (show 0 ≤ z by omega)]; rfl
    have r2 : retireE E z = ⟨g, E.pins, E.zones ++ [⟨z, g⟩]⟩ := by unfold retireE; rw [r1, hl.hg]; rfl
    rw [r1, r2]
    rw [hva] at HV
    rw [h2] at HRT
    have t1 : decide (z < 0) = false := by simp; omega

    have HZL := Lib.hid (fun W (h : Below w.heap.size w W) => (show RList W (fun b => F b ∧ b < w.heap.size) b m d E.zones from hl.z.cut.on (Same.below h)))
    have HPL := Lib.hid (fun W (h : Below w.heap.size w W) => (show IList W (fun b => F b ∧ b < w.heap.size) a n c E.pins from hl.p.cut.on (Same.below h)))
    clear hl r1 r2 hlen hva h2 HEND
    go_enter Try.func21, Try.ntmps21
    generalize hw0 : (w.alloc (epoRow g a n c b m d)).alloc (epoRow 0 none 0 0 none 0 0) = w0 at *
    go_wp2_with (first
      | ((with_reducible refine Plan.load_lit 39 (.tmp 2) (w.heap.size) ?_ K.hx Try.underlying39 ?_ ?_ ?_); (· rfl); (· rfl); (· exact epo_info); simp only [Act.put, List.setIfInBounds_toArray, List.set_cons_zero, List.set_cons_succ])
      | (go_at_call 39; ((with_reducible refine (HV.out _ K.hb).mono ?_); rintro r9 w1 ⟨rfl, h1⟩; have K1 := K.on h1; clear K hw0 HV h1; have K := K1; clear K1; obtain ⟨c0, c1, c2⟩ := three_row K.hx))
      | ((with_reducible refine load_lit_gc 39 (.tmp 2) (w.heap.size) ?_ ?_ K.hx Try.underlying39 ?_ ?_ ?_); (· rfl); (· rfl); (· rfl); (· exact epo_info); simp only [Act.put, List.setIfInBounds_toArray, List.set_cons_zero, List.set_cons_succ])
      | (go_at_call 40; ((with_reducible refine (HRT.out _ K.hb).mono ?_); rintro r9 w2 ⟨rfl, h1⟩; have K1 := K.on h1; clear K h1 HRT c0 c1 c2; have K := K1; clear K1)))
    refine LTree.start (fun W => W.cell? ⟨w.heap.size, 0, none⟩ = some (.int .i64 g) ∧ W.cell? ⟨w.heap.size, 1, none⟩ = some (.slice a n c) ∧ W.cell? ⟨w.heap.size, 2, none⟩ = some (.slice b m d)) (.take 1 (.take 2 (.take 4 (.take 5 (.take 6 (.take 7 (.fork 0 (.fork 3 (.only 8 (.only 9 (.take 10 (.only 11 (.done))))) 8 (.only 3 (.only 9 (.take 10 (.only 11 (.done)))))) 8 (.only 0 (.only 3 (.only 9 (.take 10 (.only 11 (.done))))))))))))) (by kernel_rfl) (by kernel_rfl) (by kernel_rfl) (by kernel_rfl) (three_row K.drew.hx) ?_
    simp only [Tree.T.map, List.getElem?_toArray, List.getElem?_cons_zero, List.getElem?_cons_succ]
    repeat (first | (refine LTree.take ?_ (by rfl) ?_ ?_; rotate_left; (· rintro w9 ⟨u0, u1, u2⟩; go_simp; (try rw [if_neg (by omega)]); all_goals (with_reducible rfl)); simp only [Act.put, List.setIfInBounds_toArray, List.set_cons_zero, List.set_cons_succ]))
    have K0 := K.drew
    clear K
    have K := K0
    clear K0
    generalize w2.drew = v0 at *
    refine LTree.fork (by rfl) (by rfl) ?_ ?_
    · skip
      have ownA : (v0.alloc (.cells #[] 102)).ownsRow v0.heap.size RR.et RR.sz (.slice (some ⟨v0.heap.size, 0, none⟩) 0 0) 0 (RR.all []) := own_empty RR v0 rfl
      have hA9 := K.lt
      have KA := K.al (.cells #[] 102)
      refine (Tree.wp_make (.slice (some ⟨v0.heap.size, 0, none⟩) 0 0) (v0.alloc (.cells #[] 102)) ?_ ⟨three_row KA.hx, ?_⟩)
      · go_simp
      simp only [Act.put, List.setIfInBounds_toArray, List.set_cons_zero, List.set_cons_succ]
      clear K
      have K := KA
      clear KA
      generalize hGA : v0.heap.size = GA at *
      generalize v0.alloc (.cells #[] 102) = v1 at *
      have hGs := (ownA.lt GA rfl).2
      clear hGA
      refine LTree.fork (by rfl) (by rfl) ?_ ?_
      · skip
        refine (wp_append_list rrOk (.tmp 22) (.tmp 24) rfl GA _ 0 [] rfl ownA b m d E.zones rfl (HZL.out _ K.hb) (by omega) ?_ ?_)
        · have := (ownA.lt GA rfl).2
          omega
        intro vq v2 ownP hgrowP
        have hGs3 := Nat.lt_of_lt_of_le hGs hgrowP.size
        have KP := K.grown hgrowP (fun z9 h9 => by have h8 := Option.some.inj (show some GA = some z9 from h9); omega)
        refine ⟨three_row KP.hx, ?_⟩
        simp only [Act.put, List.setIfInBounds_toArray, List.set_cons_zero, List.set_cons_succ]
        clear K ownA hgrowP
        have K := KP
        clear KP
        have hOne := heap_alloc_new v2 (.cells #[.int .i64 z, .int .i64 g] 102 (0, 0))
        have hB9 := K.lt
        have hNE : GA ≠ v2.heap.size := by omega
        have hGs2 : GA < (v2.alloc (.cells #[.int .i64 z, .int .i64 g] 102 (0, 0))).heap.size := by simp; omega
        have KB := K.al (.cells #[.int .i64 z, .int .i64 g] 102 (0, 0))
        have ownB := e_owns_on ownP ((Below.refl _ _).alloc (Nat.le_refl _) (.cells #[.int .i64 z, .int .i64 g] 102 (0, 0)))
        refine LTree.only (by rfl) (Tree.wp_make (.slice (some ⟨v2.heap.size, 0, none⟩) 1 1) (v2.alloc (.cells #[.int .i64 z, .int .i64 g] 102 (0, 0))) ?_ ⟨three_row KB.hx, ?_⟩)
        · go_simp
        simp only [Act.put, List.setIfInBounds_toArray, List.set_cons_zero, List.set_cons_succ]
        clear K
        have K := KB
        clear KB
        generalize hGB : v2.heap.size = GB at *
        generalize v2.alloc (.cells #[.int .i64 z, .int .i64 g] 102 (0, 0)) = v3 at *
        have hBs := e_lt hOne
        clear hGB
        refine LTree.only (by rfl) (wp_append_one rrOk (.tmp 25) (.tmp 30) rfl GA vq (0 + m) ([] ++ E.zones) rfl ownB GB ⟨z, g⟩ rfl hOne (by omega) ?_ ?_)
        · omega
        intro g9 c9 w9 own9 hgrow9 _
        have hg9 := (own9.lt g9 rfl).1
        have K9 := K.grown hgrow9 (fun z9 h9 => by have h8 := (ownB.lt z9 h9).1; omega)
        clear K hgrow9 ownB hOne
        have K := K9
        clear K9
        refine ⟨three_row K.hx, ?_⟩
        simp only [Act.put, List.setIfInBounds_toArray, List.set_cons_zero, List.set_cons_succ]
        repeat (first | (refine LTree.take ?_ (by rfl) ?_ ?_; rotate_left; (· rintro w9 ⟨u0, u1, u2⟩; go_simp; (try rw [if_neg (by omega)]); all_goals (with_reducible rfl)); simp only [Act.put, List.setIfInBounds_toArray, List.set_cons_zero, List.set_cons_succ]))
        refine LTree.last (by rfl) (wp_store_slice_c 37 (.tmp 32) (.tmp 31) rfl w.heap.size 2 (some ⟨g9, 0, none⟩) (0 + m + 1) c9 rfl rfl ⟨_, (three_row K.hx).2.2⟩ (free_row_c K.hx) rets_info1 ?_)
        rw [setCell_eq_setRow _ _ _ _ _ _ _ K.hx]
        simp only [List.setIfInBounds_toArray, List.set_cons_zero, List.set_cons_succ]
        have own8 := Own.row2 own9 #[.int .i64 g, .slice a n c, .slice (some ⟨g9, 0, none⟩) (0 + m + 1) c9] (show w.heap.size ≠ g9 by omega)
        have K9 := K.put (XR := epoRow g a n c (some ⟨g9, 0, none⟩) (0 + m + 1) c9) rfl
        generalize w9.setRow w.heap.size #[.int .i64 g, .slice a n c, .slice (some ⟨g9, 0, none⟩) (0 + m + 1) c9] = w10 at *
        clear K own9
        have K := K9
        clear K9
        simp only [Act.put]
        go_wp2_with (first
          | ((with_reducible refine Plan.load_lit 39 (.tmp 2) (w.heap.size) ?_ K.hx Try.underlying39 ?_ ?_ ?_); (· rfl); (· rfl); (· exact epo_info); simp only [Act.put, List.setIfInBounds_toArray, List.set_cons_zero, List.set_cons_succ])
          | ((with_reducible refine Plan.store_lit 39 (.tmp 4) _ (w.heap.size + 1) ?_ K.hr ?_ ?_ ?_ ?_ ?_ ?_); rotate_left; (· rfl); (· rfl); (· exact epo_info); (· rfl); (· simp [Value.oneCell']); simp only [Act.put]))
        obtain ⟨a9, c8, e9, l9⟩ := owns_list (F := fun b => w.heap.size + 1 < b) rrOk own8 (fun b h9 => by have h8 := Option.some.inj (show some g9 = some b from h9); omega)
        cases e9
        exact bodyPost_ret (Plan.results_cell_tmp (p := 4) (q := 5) rfl _ _ _ _ _ _ _ rfl (setRow_heap _ _ _ _ _ _ K.hr) Try.underlying39 rfl epo_info) rfl ⟨_, _, _, _, _, _, _, rfl, ⟨rfl, ((HPL.out _ K.hb).on (Same.row (r := w.heap.size + 1) (fun h => by have := h.2; omega) _)).mono (fun b _ h => .inl h.1), (l9.on (Same.row (r := w.heap.size + 1) (fun h => Nat.lt_irrefl _ h) _)).mono (fun b _ h => .inr (by omega))⟩, below_setRow K.hb (show w.heap.size ≤ w.heap.size + 1 by omega) _⟩
      · skip
        have hOne := heap_alloc_new v1 (.cells #[.int .i64 z, .int .i64 g] 102 (0, 0))
        have hB9 := K.lt
        have hNE : GA ≠ v1.heap.size := by omega
        have hGs2 : GA < (v1.alloc (.cells #[.int .i64 z, .int .i64 g] 102 (0, 0))).heap.size := by simp; omega
        have KB := K.al (.cells #[.int .i64 z, .int .i64 g] 102 (0, 0))
        have ownB := e_owns_on ownA ((Below.refl _ _).alloc (Nat.le_refl _) (.cells #[.int .i64 z, .int .i64 g] 102 (0, 0)))
        refine (Tree.wp_make (.slice (some ⟨v1.heap.size, 0, none⟩) 1 1) (v1.alloc (.cells #[.int .i64 z, .int .i64 g] 102 (0, 0))) ?_ ⟨three_row KB.hx, ?_⟩)
        · go_simp
        simp only [Act.put, List.setIfInBounds_toArray, List.set_cons_zero, List.set_cons_succ]
        clear K
        have K := KB
        clear KB
        generalize hGB : v1.heap.size = GB at *
        generalize v1.alloc (.cells #[.int .i64 z, .int .i64 g] 102 (0, 0)) = v2 at *
        have hBs := e_lt hOne
        clear hGB
        refine LTree.only (by rfl) (wp_append_list rrOk (.tmp 22) (.tmp 24) rfl GA _ 0 [] rfl ownB b m d E.zones rfl (HZL.out _ K.hb) (by omega) ?_ ?_)
        · have := (ownB.lt GA rfl).2
          omega
        intro vq v3 ownP hgrowP
        have hGs3 := Nat.lt_of_lt_of_le hGs2 hgrowP.size
        have KP := K.grown hgrowP (fun z9 h9 => by have h8 := Option.some.inj (show some GA = some z9 from h9); omega)
        have hOneP := (hgrowP.block GB (e_lt hOne) (fun e => by have h8 := Option.some.inj (show some GB = some GA from e); omega)).trans hOne
        clear hOne
        have hOne := hOneP
        clear hOneP
        refine ⟨three_row KP.hx, ?_⟩
        simp only [Act.put, List.setIfInBounds_toArray, List.set_cons_zero, List.set_cons_succ]
        clear K ownB hgrowP
        have K := KP
        clear KP
        refine LTree.only (by rfl) (wp_append_one rrOk (.tmp 25) (.tmp 30) rfl GA vq (0 + m) ([] ++ E.zones) rfl ownP GB ⟨z, g⟩ rfl hOne (by omega) ?_ ?_)
        · omega
        intro g9 c9 w9 own9 hgrow9 _
        have hg9 := (own9.lt g9 rfl).1
        have K9 := K.grown hgrow9 (fun z9 h9 => by have h8 := (ownP.lt z9 h9).1; omega)
        clear K hgrow9 ownP hOne
        have K := K9
        clear K9
        refine ⟨three_row K.hx, ?_⟩
        simp only [Act.put, List.setIfInBounds_toArray, List.set_cons_zero, List.set_cons_succ]
        repeat (first | (refine LTree.take ?_ (by rfl) ?_ ?_; rotate_left; (· rintro w9 ⟨u0, u1, u2⟩; go_simp; (try rw [if_neg (by omega)]); all_goals (with_reducible rfl)); simp only [Act.put, List.setIfInBounds_toArray, List.set_cons_zero, List.set_cons_succ]))
        refine LTree.last (by rfl) (wp_store_slice_c 37 (.tmp 32) (.tmp 31) rfl w.heap.size 2 (some ⟨g9, 0, none⟩) (0 + m + 1) c9 rfl rfl ⟨_, (three_row K.hx).2.2⟩ (free_row_c K.hx) rets_info1 ?_)
        rw [setCell_eq_setRow _ _ _ _ _ _ _ K.hx]
        simp only [List.setIfInBounds_toArray, List.set_cons_zero, List.set_cons_succ]
        have own8 := Own.row2 own9 #[.int .i64 g, .slice a n c, .slice (some ⟨g9, 0, none⟩) (0 + m + 1) c9] (show w.heap.size ≠ g9 by omega)
        have K9 := K.put (XR := epoRow g a n c (some ⟨g9, 0, none⟩) (0 + m + 1) c9) rfl
        generalize w9.setRow w.heap.size #[.int .i64 g, .slice a n c, .slice (some ⟨g9, 0, none⟩) (0 + m + 1) c9] = w10 at *
        clear K own9
        have K := K9
        clear K9
        simp only [Act.put]
        go_wp2_with (first
          | ((with_reducible refine Plan.load_lit 39 (.tmp 2) (w.heap.size) ?_ K.hx Try.underlying39 ?_ ?_ ?_); (· rfl); (· rfl); (· exact epo_info); simp only [Act.put, List.setIfInBounds_toArray, List.set_cons_zero, List.set_cons_succ])
          | ((with_reducible refine Plan.store_lit 39 (.tmp 4) _ (w.heap.size + 1) ?_ K.hr ?_ ?_ ?_ ?_ ?_ ?_); rotate_left; (· rfl); (· rfl); (· exact epo_info); (· rfl); (· simp [Value.oneCell']); simp only [Act.put]))
        obtain ⟨a9, c8, e9, l9⟩ := owns_list (F := fun b => w.heap.size + 1 < b) rrOk own8 (fun b h9 => by have h8 := Option.some.inj (show some g9 = some b from h9); omega)
        cases e9
        exact bodyPost_ret (Plan.results_cell_tmp (p := 4) (q := 5) rfl _ _ _ _ _ _ _ rfl (setRow_heap _ _ _ _ _ _ K.hr) Try.underlying39 rfl epo_info) rfl ⟨_, _, _, _, _, _, _, rfl, ⟨rfl, ((HPL.out _ K.hb).on (Same.row (r := w.heap.size + 1) (fun h => by have := h.2; omega) _)).mono (fun b _ h => .inl h.1), (l9.on (Same.row (r := w.heap.size + 1) (fun h => Nat.lt_irrefl _ h) _)).mono (fun b _ h => .inr (by omega))⟩, below_setRow K.hb (show w.heap.size ≤ w.heap.size + 1 by omega) _⟩
    · skip
      have hOne := heap_alloc_new v0 (.cells #[.int .i64 z, .int .i64 g] 102 (0, 0))
      have hB9 := K.lt
      have KB := K.al (.cells #[.int .i64 z, .int .i64 g] 102 (0, 0))
      refine (Tree.wp_make (.slice (some ⟨v0.heap.size, 0, none⟩) 1 1) (v0.alloc (.cells #[.int .i64 z, .int .i64 g] 102 (0, 0))) ?_ ⟨three_row KB.hx, ?_⟩)
      · go_simp
      simp only [Act.put, List.setIfInBounds_toArray, List.set_cons_zero, List.set_cons_succ]
      clear K
      have K := KB
      clear KB
      generalize hGB : v0.heap.size = GB at *
      generalize v0.alloc (.cells #[.int .i64 z, .int .i64 g] 102 (0, 0)) = v1 at *
      have hBs := e_lt hOne
      clear hGB
      have hOneA := e_al hOne (.cells #[] 102)
      clear hOne
      have hOne := hOneA
      clear hOneA
      have ownA : (v1.alloc (.cells #[] 102)).ownsRow v1.heap.size RR.et RR.sz (.slice (some ⟨v1.heap.size, 0, none⟩) 0 0) 0 (RR.all []) := own_empty RR v1 rfl
      have hA9 := K.lt
      have hNE : v1.heap.size ≠ GB := by have := e_lt hOne; omega
      have KA := K.al (.cells #[] 102)
      refine LTree.only (by rfl) (Tree.wp_make (.slice (some ⟨v1.heap.size, 0, none⟩) 0 0) (v1.alloc (.cells #[] 102)) ?_ ⟨three_row KA.hx, ?_⟩)
      · go_simp
      simp only [Act.put, List.setIfInBounds_toArray, List.set_cons_zero, List.set_cons_succ]
      clear K
      have K := KA
      clear KA
      generalize hGA : v1.heap.size = GA at *
      generalize v1.alloc (.cells #[] 102) = v2 at *
      have hGs := (ownA.lt GA rfl).2
      clear hGA
      refine LTree.only (by rfl) (wp_append_list rrOk (.tmp 22) (.tmp 24) rfl GA _ 0 [] rfl ownA b m d E.zones rfl (HZL.out _ K.hb) (by omega) ?_ ?_)
      · have := (ownA.lt GA rfl).2
        omega
      intro vq v3 ownP hgrowP
      have hGs3 := Nat.lt_of_lt_of_le hGs hgrowP.size
      have KP := K.grown hgrowP (fun z9 h9 => by have h8 := Option.some.inj (show some GA = some z9 from h9); omega)
      have hOneP := (hgrowP.block GB (e_lt hOne) (fun e => by have h8 := Option.some.inj (show some GB = some GA from e); omega)).trans hOne
      clear hOne
      have hOne := hOneP
      clear hOneP
      refine ⟨three_row KP.hx, ?_⟩
      simp only [Act.put, List.setIfInBounds_toArray, List.set_cons_zero, List.set_cons_succ]
      clear K ownA hgrowP
      have K := KP
      clear KP
      refine LTree.only (by rfl) (wp_append_one rrOk (.tmp 25) (.tmp 30) rfl GA vq (0 + m) ([] ++ E.zones) rfl ownP GB ⟨z, g⟩ rfl hOne (by omega) ?_ ?_)
      · omega
      intro g9 c9 w9 own9 hgrow9 _
      have hg9 := (own9.lt g9 rfl).1
      have K9 := K.grown hgrow9 (fun z9 h9 => by have h8 := (ownP.lt z9 h9).1; omega)
      clear K hgrow9 ownP hOne
      have K := K9
      clear K9
      refine ⟨three_row K.hx, ?_⟩
      simp only [Act.put, List.setIfInBounds_toArray, List.set_cons_zero, List.set_cons_succ]
      repeat (first | (refine LTree.take ?_ (by rfl) ?_ ?_; rotate_left; (· rintro w9 ⟨u0, u1, u2⟩; go_simp; (try rw [if_neg (by omega)]); all_goals (with_reducible rfl)); simp only [Act.put, List.setIfInBounds_toArray, List.set_cons_zero, List.set_cons_succ]))
      refine LTree.last (by rfl) (wp_store_slice_c 37 (.tmp 32) (.tmp 31) rfl w.heap.size 2 (some ⟨g9, 0, none⟩) (0 + m + 1) c9 rfl rfl ⟨_, (three_row K.hx).2.2⟩ (free_row_c K.hx) rets_info1 ?_)
      rw [setCell_eq_setRow _ _ _ _ _ _ _ K.hx]
      simp only [List.setIfInBounds_toArray, List.set_cons_zero, List.set_cons_succ]
      have own8 := Own.row2 own9 #[.int .i64 g, .slice a n c, .slice (some ⟨g9, 0, none⟩) (0 + m + 1) c9] (show w.heap.size ≠ g9 by omega)
      have K9 := K.put (XR := epoRow g a n c (some ⟨g9, 0, none⟩) (0 + m + 1) c9) rfl
      generalize w9.setRow w.heap.size #[.int .i64 g, .slice a n c, .slice (some ⟨g9, 0, none⟩) (0 + m + 1) c9] = w10 at *
      clear K own9
      have K := K9
      clear K9
      simp only [Act.put]
      go_wp2_with (first
        | ((with_reducible refine Plan.load_lit 39 (.tmp 2) (w.heap.size) ?_ K.hx Try.underlying39 ?_ ?_ ?_); (· rfl); (· rfl); (· exact epo_info); simp only [Act.put, List.setIfInBounds_toArray, List.set_cons_zero, List.set_cons_succ])
        | ((with_reducible refine Plan.store_lit 39 (.tmp 4) _ (w.heap.size + 1) ?_ K.hr ?_ ?_ ?_ ?_ ?_ ?_); rotate_left; (· rfl); (· rfl); (· exact epo_info); (· rfl); (· simp [Value.oneCell']); simp only [Act.put]))
      obtain ⟨a9, c8, e9, l9⟩ := owns_list (F := fun b => w.heap.size + 1 < b) rrOk own8 (fun b h9 => by have h8 := Option.some.inj (show some g9 = some b from h9); omega)
      cases e9
      exact bodyPost_ret (Plan.results_cell_tmp (p := 4) (q := 5) rfl _ _ _ _ _ _ _ rfl (setRow_heap _ _ _ _ _ _ K.hr) Try.underlying39 rfl epo_info) rfl ⟨_, _, _, _, _, _, _, rfl, ⟨rfl, ((HPL.out _ K.hb).on (Same.row (r := w.heap.size + 1) (fun h => by have := h.2; omega) _)).mono (fun b _ h => .inl h.1), (l9.on (Same.row (r := w.heap.size + 1) (fun h => Nat.lt_irrefl _ h) _)).mono (fun b _ h => .inr (by omega))⟩, below_setRow K.hb (show w.heap.size ≤ w.heap.size + 1 by omega) _⟩
end Go.Proofs.Ythhggiifbldaeaa.Ents

/- The walks of the document's Ready and Forget of epochs. -/
namespace Go.Proofs.Ythhggiifbldaeaa.Ents
open Go.RowKit Plan EntMath CntMath EpoMath Rws
/-- what Ready leaves -/
def RdyPost (w : World) (E : Epo) (r : Ending) (w' : World) : Prop := r = .returned (.tuple #[.int .i64 (readyZ E), .bool (readyB E)]) ∧ Below w.heap.size w w'
theorem forget_no {E : Epo} {z : Int} (h : forgetB E z = false) : forgetE E z = E := by unfold forgetE; rw [h]; rfl
theorem fgt_ways (E : Epo) (z : Int) : (readyB E = false ∧ forgetB E z = false) ∨ (readyB E = true ∧ ¬ readyZ E = z ∧ forgetB E z = false) ∨ (readyB E = true ∧ readyZ E = z ∧ forgetB E z = true) := by
  unfold forgetB
  cases readyB E
  · exact .inl ⟨rfl, rfl⟩
  · by_cases h : readyZ E = z
    · exact .inr (.inr ⟨rfl, h, by simpa using h⟩)
    · exact .inr (.inl ⟨rfl, h, by simpa using h⟩)
end Go.Proofs.Ythhggiifbldaeaa.Ents

/- The walks of the document's Advance, New and Same of epochs. -/
namespace Go.Proofs.Ythhggiifbldaeaa.Ents
open Go.RowKit Plan EntMath CntMath EpoMath Rws
theorem adv_no {E : Epo} (h : advB E = false) : advE E = E := by unfold advE; rw [h]; rfl
theorem ret_eql (o f : Ret) (w : World) : (binOp .neq 102 (retV o) (retV f)).run Try.prog w = .ok (.bool (!decide (o = f))) w := by
  obtain ⟨z1, e1⟩ := o
  obtain ⟨z2, e2⟩ := f
  have hd : decide ((⟨z1, e1⟩ : Ret) = ⟨z2, e2⟩) = (decide (z1 = z2) && decide (e1 = e2)) := by
    rw [← Bool.decide_and]
    refine decide_eq_decide.2 ?_
    rw [Ret.mk.injEq]
  rw [hd]
  go_simp
  repeat' split
  all_goals simp_all
end Go.Proofs.Ythhggiifbldaeaa.Ents
