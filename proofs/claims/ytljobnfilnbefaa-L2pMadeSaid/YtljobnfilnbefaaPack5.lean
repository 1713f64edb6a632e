/- Texts that belong together, part 5. -/
import Derived.Test.YtljobnfilnbefaaPack4

/- The walks of the program's possible, blockOf, of the comparison and of the closure that index hands on. -/
namespace Go.Proofs.Ytljobnfilnbefaa.Ents
open Go.RowKit Plan EntMath
set_option maxHeartbeats 1000000 in
theorem possible_any (e : Ent) (w : World) :
    Calls Try.prog 60 #[entV e] w fun r w' => r = .returned (.bool (okE e)) ∧ Below w.heap.size w w' := by
  have hy := (@ok_iff e).2
  have hn := @ok_not e
  generalize okE e = E at *
  obtain ⟨b, k, v, m, z, o⟩ := e
  try simp only at hy hn
  have HY := Lib.hid hy
  have HN := Lib.hid hn
  clear hy hn
  go_enter Try.func60, Try.ntmps60
  go_wp2
  all_goals go_ret
  all_goals exact ⟨e_b (by first | exact (HY.out (by omega)).symm | exact (HN.out (by omega)).symm | exact e_dec (fun h => HY.out (by omega)) (fun h => HN.out (by omega))), (Below.refl _ _).alloc (Nat.le_refl _) _⟩
set_option maxHeartbeats 1000000 in
theorem blockOf_any (e : Ent) (w : World) :
    Calls Try.prog 59 #[entV e] w fun r w' => r = .returned (.int .i64 e.block) ∧ Below w.heap.size w w' := by
  obtain ⟨b, k, v, m, z, o⟩ := e
  go_enter Try.func59, Try.ntmps59
  go_wp2
  go_ret
  exact ⟨rfl, (Below.refl _ _).alloc (Nat.le_refl _) _⟩
def cmpI (x y : Int) : Int := if x < y then -1 else if y < x then 1 else 0
theorem e_i {a b : Int} (h : a = b) : Ending.returned (.int .i64 a) = .returned (.int .i64 b) := by rw [h]
set_option maxHeartbeats 1000000 in
theorem isNaN_any (x : Int) (w : World) :
    Calls Try.prog 65 #[.int .i64 x] w fun r w' => r = .returned (.bool false) ∧ w' = w := by
  go_enter Try.func65, Try.ntmps65
  go_wp2
  go_ret
  exact ⟨by first | rfl | simp, rfl⟩
set_option maxHeartbeats 1000000 in
theorem compare_any (x y : Int) (w : World) :
    Calls Try.prog 48 #[.int .i64 x, .int .i64 y] w fun r w' => r = .returned (.int .i64 (cmpI x y)) ∧ w' = w := by
  have hc : cmpI x y = if x < y then -1 else if y < x then 1 else 0 := rfl
  generalize cmpI x y = C at *
  have HC := Lib.hid hc
  clear hc
  have h1 := Lib.hid (isNaN_any x)
  have h2 := Lib.hid (isNaN_any y)
  go_enter Try.func48, Try.ntmps48
  go_wp2_with (first
    | (go_at_call 65; ((with_reducible refine (h1.out _).mono ?_); rintro e w1 ⟨rfl, rfl⟩))
    | (go_at_call 65; ((with_reducible refine (h2.out _).mono ?_); rintro e w1 ⟨rfl, rfl⟩)))
  all_goals go_ret
  all_goals exact ⟨e_i (by rw [HC.out]; first | (rw [if_pos (by omega)]; done) | (rw [if_neg (by omega), if_pos (by omega)]; done) | (rw [if_neg (by omega), if_neg (by omega)]; done)), rfl⟩
/-- the function value that takes the key of an entry, in a box -/
abbrev keyRow : Obj := .cells #[.func (.func 59) #[] #[]] 88
theorem one_cell {w : World} {g : Nat} {a : Value} {t : TypeId} {fr : Nat × Nat} (h : w.heap[g]? = some (.cells #[a] t fr)) : w.cell? ⟨g, 0, none⟩ = some a := cell_of_row _ _ 0 _ _ _ h
set_option maxHeartbeats 1000000 in
theorem key_any (e : Ent) (b : Int) (p : Nat) (w : World) (h : w.heap[p]? = some keyRow) :
    Calls Try.prog 68 #[entV e, .int .i64 b, .pointer (some ⟨p, 0, none⟩)] w fun r w' => r = .returned (.int .i64 (cmpI e.block b)) ∧ Below w.heap.size w w' := by
  have hb := Lib.hid (blockOf_any e)
  have hc := Lib.hid (compare_any e.block b)
  generalize cmpI e.block b = C at *
  obtain ⟨eb, k, v, m, z, o⟩ := e
  try simp only at hb hc
  have hA := (Below.refl w.heap.size w).alloc (Nat.le_refl _) (entRow eb k v m z o)
  have hk := one_cell (e_al h (entRow eb k v m z o))
  have hr := heap_alloc_new w (entRow eb k v m z o)
  obtain ⟨c0, c1, c2, c3, c4, c5⟩ := entry_row hr
  go_enter Try.func68, Try.ntmps68
  generalize hw0 : w.alloc (entRow eb k v m z o) = w0 at *
  go_wp2_with (first
    | (go_at_call 59; ((with_reducible refine (hb.out _).mono ?_); rintro e9 w1 ⟨rfl, h1⟩; have b1 := hA.trans (h1.mono hA.size)))
    | (go_at_call 48; ((with_reducible refine (hc.out _).mono ?_); rintro e9 w2 ⟨rfl, rfl⟩)))
  go_ret
  exact ⟨rfl, b1⟩
end Go.Proofs.Ytljobnfilnbefaa.Ents

/- The walks of the library's search at entries, and of the program's index. -/
namespace Go.Proofs.Ytljobnfilnbefaa.Ents
open Go.RowKit Plan EntMath
theorem cmp_lt {x y : Int} (h : x < y) : cmpI x y = -1 := if_pos h
theorem cmp_ge {x y : Int} (h : y ≤ x) : 0 ≤ cmpI x y := by unfold cmpI; rw [if_neg (by omega)]; split <;> omega
theorem cmp_eq {x : Int} : cmpI x x = 0 := by unfold cmpI; rw [if_neg (by omega), if_neg (by omega)]
theorem cmp_gt {x y : Int} (h : y < x) : cmpI x y = 1 := by unfold cmpI; rw [if_neg (by omega), if_pos h]
theorem asc_at {L : List Ent} (h : Asc L) {i j : Nat} {x y : Ent} (hx : L[i]? = some x) (hy : L[j]? = some y) (hij : i ≤ j) : x.block ≤ y.block := by
  obtain ⟨hi, rfl⟩ := List.getElem?_eq_some_iff.1 hx
  obtain ⟨hj, rfl⟩ := List.getElem?_eq_some_iff.1 hy
  rw [Asc, List.pairwise_iff_getElem] at h
  rcases Nat.lt_or_ge i j with h1 | h1
  · exact Int.le_of_lt (h i j hi hj h1)
  · obtain rfl : i = j := by omega
    exact Int.le_refl _
/-- what the search has found out so far -/
def Split (L : List Ent) (b : Int) (lo hi : Nat) : Prop := (∀ i x, i < lo → L[i]? = some x → x.block < b) ∧ (∀ i x, hi ≤ i → L[i]? = some x → b ≤ x.block)
theorem Split.all (L : List Ent) (b : Int) : Split L b 0 L.length := ⟨fun _ _ h _ => absurd h (Nat.not_lt_zero _), fun _ _ h hx => by have := (List.getElem?_eq_some_iff.1 hx).1; omega⟩
theorem Split.up {L : List Ent} {b : Int} {lo hi m : Nat} (h : Split L b lo hi) (hA : Asc L) {e : Ent} (he : L[m]? = some e) (hb : e.block < b) : Split L b (m + 1) hi :=
  ⟨fun i x hi hx => by have := asc_at hA hx he (by omega); omega, h.2⟩
theorem Split.down {L : List Ent} {b : Int} {lo hi m : Nat} (h : Split L b lo hi) (hA : Asc L) {e : Ent} (he : L[m]? = some e) (hb : b ≤ e.block) : Split L b lo m :=
  ⟨h.1, fun i x hi hx => by have := asc_at hA he hx hi; omega⟩
theorem Split.place {L : List Ent} {b : Int} {k : Nat} (h : Split L b k k) (hk : k ≤ L.length) : place L b = k := place_is h.1 (fun x hx => h.2 k x (Nat.le_refl _) hx) hk
theorem Split.some {L : List Ent} {b : Int} {k : Nat} (h : Split L b k k) (hA : Asc L) (hk : k ≤ L.length) {e : Ent} (he : L[k]? = some e) : (lookE L b).isSome = decide (e.block = b) := by
  rw [look_place hA, h.place hk, he]
  by_cases hb : e.block = b
  · simp [hb]
  · simp [hb]
theorem Split.past {L : List Ent} {b : Int} {k : Nat} (h : Split L b k k) (hA : Asc L) (hk : k = L.length) : (lookE L b).isSome = false := by
  rw [look_place hA, h.place (by omega), List.getElem?_eq_none (by omega)]
  rfl
def IndexPost (w : World) (L : List Ent) (b : Int) (r : Ending) (w' : World) : Prop := r = .returned (.tuple #[.int .i64 (EntMath.place L b : Int), .bool (lookE L b).isSome]) ∧ Below w.heap.size w w'
set_option maxHeartbeats 4000000 in
set_option maxRecDepth 20000 in
theorem search_any (F : Nat → Prop) (L : List Ent) (b : Int) (a : Option Addr) (len cap p : Nat) (w : World) (hl : EList w F a len cap L) (hA : Asc L) (hm : len ≤ 1000000) (hp : w.heap[p]? = some keyRow) :
    Calls Try.prog 67 #[.slice a len cap, .int .i64 b, .func (.func 68) #[] #[.pointer (some ⟨p, 0, none⟩)]] w (IndexPost w L b) := by
  have hlen := hl.length
  have HAT := Lib.hid (fun W (h : Below w.heap.size w W) i (hi : i < len) => (hl.low.on (Same.low h)).ent i hi)
  have HK := Lib.hid (fun W (h : Below w.heap.size w W) e => key_any e b p W (e_on h hp (e_lt hp)))
  have s0 := Split.all L b
  rw [hlen] at s0
  have hupx := fun lo hi m e (h : Split L b lo hi) (he : L[m]? = some e) (hb : e.block < b) => h.up hA he hb
  have hdn := fun lo hi m e (h : Split L b lo hi) (he : L[m]? = some e) (hb : b ≤ e.block) => h.down hA he hb
  have hpl := fun k (h : Split L b k k) (hk : k ≤ len) => h.place (by omega)
  have hso := fun k e (h : Split L b k k) (hk : k ≤ len) (he : L[k]? = some e) => h.some hA (by omega) he
  have hpa := fun (h : Split L b len len) => h.past hA hlen.symm
  unfold IndexPost
  generalize EntMath.place L b = PL at *
  generalize (lookE L b).isSome = FO at *
  generalize Split L b = SP at *
  have S0 := Lib.hid s0
  have HUP := Lib.hid hupx
  have HDN := Lib.hid hdn
  have HPL := Lib.hid hpl
  have HSO := Lib.hid hso
  have HPA := Lib.hid hpa
  clear s0 hupx hdn hpl hso hpa hl hA hp
  go_enter Try.func67, Try.ntmps67
  go_wp2
  go_loopw [9, 10] (fun x y wr => ∃ lo hi : Nat, x = .int .i64 (lo : Int) ∧ y = .int .i64 (hi : Int) ∧ lo ≤ hi ∧ hi ≤ len ∧ RowKit.Hid (SP lo hi) ∧ Below w.heap.size w wr) (fun x y _ => (intOf y).toNat - (intOf x).toNat)
  case atStart => exact ⟨0, len, rfl, rfl, by omega, by omega, S0, Below.refl _ _⟩
  case round =>
    clear S0
    obtain ⟨lo, hi, rfl, rfl, hlh, hhn, hs, hb⟩ := hrel
    by_cases hlt : lo < hi
    · obtain ⟨x, e, rfl, he, hat⟩ := HAT.out wr hb ((lo + hi) / 2) (by omega)
      have hHE := Lib.hid he
      have hk := HK.out wr hb e
      have hltI : (lo : Int) < (hi : Int) := by omega
      by_cases hlb : e.block < b
      · rw [cmp_lt hlb] at hk
        have hn := Lib.hid (HUP.out lo hi _ e hs.out he hlb)
        clear he
        obtain ⟨eb, ek, ev, em, ez, eo⟩ := e
        try simp only at hk hat hlb
        obtain ⟨c0, c1, c2, c3, c4, c5⟩ := hat
        clear hlb
        have hk := Lib.hid hk
        go_wp2_with (first
          | (go_at_call 68; ((with_reducible refine hk.out.mono ?_); rintro e9 w1 ⟨rfl, h1⟩)))
        go_roundw
        case rel => exact ⟨(lo + hi) / 2 + 1, hi, by go_num, rfl, by omega, hhn, hn, hb.trans (h1.mono hb.size)⟩
        case measure => simp [intOf]; omega
      · have hcg := cmp_ge (x := e.block) (y := b) (by omega)
        have hn := Lib.hid (HDN.out lo hi _ e hs.out he (by omega))
        generalize cmpI e.block b = C at *
        clear he
        obtain ⟨eb, ek, ev, em, ez, eo⟩ := e
        try simp only at hk hat hlb
        obtain ⟨c0, c1, c2, c3, c4, c5⟩ := hat
        clear hlb
        have hk := Lib.hid hk
        go_wp2_with (first
          | (go_at_call 68; ((with_reducible refine hk.out.mono ?_); rintro e9 w1 ⟨rfl, h1⟩)))
        go_roundw
        case rel => exact ⟨lo, (lo + hi) / 2, rfl, by go_num, by omega, by omega, hn, hb.trans (h1.mono hb.size)⟩
        case measure => simp [intOf]; omega
    · obtain rfl : lo = hi := by omega
      have hpl := Lib.hid (HPL.out lo hs.out hhn)
      by_cases hln : lo < len
      · obtain ⟨x, e, rfl, he, hat⟩ := HAT.out wr hb lo hln
        have hk := HK.out wr hb e
        have hso := HSO.out lo e hs.out hhn he
        have hlI : (lo : Int) < (len : Int) := by omega
        clear he
        by_cases heb : e.block = b
        · rw [heb, cmp_eq] at hk
          rw [decide_eq_true heb] at hso
          have hso := Lib.hid hso
          obtain ⟨eb, ek, ev, em, ez, eo⟩ := e
          try simp only at hk hat heb
          obtain ⟨c0, c1, c2, c3, c4, c5⟩ := hat
          clear heb
          have hk := Lib.hid hk
          go_wp2_with (first
            | (go_at_call 68; ((with_reducible refine hk.out.mono ?_); rintro e9 w1 ⟨rfl, h1⟩)))
          go_ret2
          exact ⟨by rw [hpl.out, hso.out]; rfl, hb.trans (h1.mono hb.size)⟩
        · have hne : (cmpI e.block b == 0) = false := by
            rcases Int.lt_trichotomy e.block b with h | h | h
            · rw [cmp_lt h]; decide
            · exact absurd h heb
            · rw [cmp_gt h]; decide
          rw [decide_eq_false heb] at hso
          have hso := Lib.hid hso
          generalize cmpI e.block b = C at *
          obtain ⟨eb, ek, ev, em, ez, eo⟩ := e
          try simp only at hk hat heb
          obtain ⟨c0, c1, c2, c3, c4, c5⟩ := hat
          clear heb
          have hk := Lib.hid hk
          go_wp2_with (first
            | (go_at_call 68; ((with_reducible refine hk.out.mono ?_); rintro e9 w1 ⟨rfl, h1⟩)))
          go_ret2
          exact ⟨by rw [hpl.out, hso.out]; rfl, hb.trans (h1.mono hb.size)⟩
      · obtain rfl : lo = len := by omega
        have hpa := Lib.hid (HPA.out hs.out)
        go_wp2_with fail
        go_ret2
        exact ⟨by rw [hpl.out, hpa.out]; rfl, hb⟩
/-- the function value that takes the key of an entry -/
abbrev keyF : Value := .func (.func 59) #[] #[]
set_option maxHeartbeats 1000000 in
theorem index_any (F : Nat → Prop) (L : List Ent) (b : Int) (a : Option Addr) (len cap : Nat) (w : World) (hl : EList w F a len cap L) (hA : Asc L) (hm : len ≤ 1000000) :
    Calls Try.prog 58 #[.slice a len cap, .int .i64 b, keyF] w (IndexPost w L b) := by
  have hB := (Below.refl w.heap.size w).alloc (Nat.le_refl _) keyRow
  have HS := Lib.hid (search_any _ L b a len cap w.heap.size (w.alloc keyRow) (hl.low.on (Same.low hB)) hA hm (heap_alloc_new w keyRow))
  clear hl
  unfold IndexPost at *
  go_enter Try.func58, Try.ntmps58
  go_wp2_with (first
    | (go_at_call 67; ((with_reducible refine HS.out.mono ?_); rintro e9 w1 ⟨rfl, h1⟩)))
  go_ret2
  exact ⟨rfl, hB.trans (h1.mono hB.size)⟩
end Go.Proofs.Ytljobnfilnbefaa.Ents

/- The walk of the program's Valid. -/
namespace Go.Proofs.Ytljobnfilnbefaa.Ents
open Go.RowKit Plan EntMath
/-- the six cells of an entry in a block of its own -/
abbrev SixP (W : World) (g : Nat) (b k v m z o : Int) : Prop :=
  W.cell? ⟨g, 0, none⟩ = some (.int .i64 b) ∧ W.cell? ⟨g, 1, none⟩ = some (.int .i64 k) ∧ W.cell? ⟨g, 2, none⟩ = some (.int .i64 v) ∧ W.cell? ⟨g, 3, none⟩ = some (.int .i64 m) ∧ W.cell? ⟨g, 4, none⟩ = some (.int .i64 z) ∧ W.cell? ⟨g, 5, none⟩ = some (.int .i64 o)
set_option maxHeartbeats 4000000 in
set_option maxRecDepth 20000 in
theorem valid_any (F : Nat → Prop) (L : List Ent) (a : Option Addr) (len cap : Nat) (w : World) (hl : EList w F a len cap L) :
    Calls Try.prog 56 #[.slice a len cap] w fun r w' => r = .returned (.bool (validB L)) ∧ Below w.heap.size w w' := by
  have hlen := hl.length
  have hat := fun W (h : Below w.heap.size w W) i (hi : i < len) => (hl.on (Same.below h)).ent i hi
  have hmx : len ≤ maxLen := Nat.le_trans hl.cap.1 hl.cap.2
  unfold maxLen at hmx
  have HAT := Lib.hid hat
  have hall := @valid_all L
  have hno := fun i e he h => @valid_no L i e he h
  generalize validB L = R at *
  have HALL := Lib.hid hall
  have HNO := Lib.hid hno
  clear hat hl hall hno
  go_enter Try.func56, Try.ntmps56
  go_wp2_with fail
  go_loopw [7] (fun c wr => ∃ j : Nat, c = .int .i64 (j : Int) ∧ j ≤ len ∧ RowKit.Hid (∀ i, i < j → okAt L i = true) ∧ Below w.heap.size w wr) (fun c _ => len - (intOf c).toNat)
  case atStart => exact ⟨0, rfl, by omega, Lib.hid (fun i h => absurd h (Nat.not_lt_zero _)), Below.refl _ _⟩
  case round =>
    obtain ⟨j, rfl, hj, hbf, hb⟩ := hrel
    by_cases hlt : j < len
    · obtain ⟨x, e, rfl, he, hat⟩ := HAT.out wr hb j hlt
      have hjI : (j : Int) < (len : Int) := by omega
      have hokI := okAt_iff he
      have HE := Lib.hid (fun W => possible_any e W)
      have HN := Lib.hid (fun h => HNO.out j e he h)
      have hnx := Lib.hid (fun (h : okAt L j = true) i (hi : i < j + 1) => (show okAt L i = true from by
        rcases Nat.lt_or_ge i j with h1 | h1
        · exact hbf.out i h1
        · obtain rfl : i = j := by omega
          exact h))
      cases hok : okE e
      · have hA : okAt L j = false := by
          cases hA : okAt L j
          · rfl
          · rw [(hokI.1 hA).1] at hok; cases hok
        have hR := Lib.hid (HN.out hA)
        rw [hok] at HE
        clear hokI hok hA he
        obtain ⟨b, k, v, m, z, o⟩ := e
        try simp only at hat HE
        obtain ⟨a0, a1, a2, a3, a4, a5⟩ := hat
        go_wp2_with fail
        have hrow := heap_alloc_new wr (entRow b k v m z o)
        have b1 := hb.alloc hb.size (entRow b k v m z o)
        generalize hw1 : wr.alloc (entRow b k v m z o) = w1 at *
        obtain ⟨c0, c1, c2, c3, c4, c5⟩ := entry_row hrow
        refine Plan.start (fun W => SixP W wr.heap.size b k v m z o) [(0, true), (1, false), (2, true), (3, true), (4, true), (5, true), (6, true), (7, true), (8, true), (9, true), (10, true), (11, true), (12, true), (13, true), (14, true), (15, true), (16, true), (17, true)] (by kernel_rfl) (by kernel_rfl) (by kernel_rfl) (by kernel_rfl) (entry_row hrow) ?_
        simp only [List.map_cons, List.map_nil, List.getElem?_toArray, List.getElem?_cons_zero, List.getElem?_cons_succ]
        repeat (first | (refine Plan.take ?_ (by rfl) ?_ ?_; rotate_left; (· rintro w9 ⟨u0, u1, u2, u3, u4, u5⟩; go_simp; (try rw [if_neg (by omega)]); all_goals (with_reducible rfl)); simp only [Act.put, List.setIfInBounds_toArray, List.set_cons_zero, List.set_cons_succ]) | (refine Plan.pass (by rfl) ?_; simp only [Act.put, List.setIfInBounds_toArray, List.set_cons_zero, List.set_cons_succ]))
        refine Plan.call (by rfl) 60 _ ?_ (HE.out _) ?_
        · go_simp
        rintro e9 v1 ⟨rfl, hb1⟩
        refine ⟨_, rfl, (entry_row (e_on hb1 hrow (e_lt hrow))), ?_⟩
        simp only [Act.put, List.setIfInBounds_toArray, List.set_cons_zero, List.set_cons_succ]
        repeat (first | (refine Plan.take ?_ (by rfl) ?_ ?_; rotate_left; (· rintro w9 ⟨u0, u1, u2, u3, u4, u5⟩; go_simp; (try rw [if_neg (by omega)]); all_goals (with_reducible rfl)); simp only [Act.put, List.setIfInBounds_toArray, List.set_cons_zero, List.set_cons_succ]) | (refine Plan.pass (by rfl) ?_; simp only [Act.put, List.setIfInBounds_toArray, List.set_cons_zero, List.set_cons_succ]))
        refine Plan.ends ?_
        have b9 := b1.drew.trans (hb1.mono b1.size)
        clear hrow c0 c1 c2 c3 c4 c5
        go_wp2_with fail
        go_ret
        exact ⟨by rw [hR.out]; rfl, b9⟩
      · rw [hok] at HE
        by_cases h0 : j = 0
        · have hA : okAt L j = true := hokI.2 ⟨hok, fun d h _ => absurd h (by omega)⟩
          have hN := Lib.hid (hnx.out hA)
          have d1 : decide (0 < (j : Int)) = false := by simp; omega
          have d2 : decide (0 < j) = false := by simp; omega
          clear hokI hok hA he
          obtain ⟨b, k, v, m, z, o⟩ := e
          try simp only at hat HE
          obtain ⟨a0, a1, a2, a3, a4, a5⟩ := hat
          clear h0
          go_wp2_with fail
          have hrow := heap_alloc_new wr (entRow b k v m z o)
          have b1 := hb.alloc hb.size (entRow b k v m z o)
          generalize hw1 : wr.alloc (entRow b k v m z o) = w1 at *
          obtain ⟨c0, c1, c2, c3, c4, c5⟩ := entry_row hrow
          refine Plan.start (fun W => SixP W wr.heap.size b k v m z o) [(0, true), (1, false), (2, true), (3, true), (4, true), (5, true), (6, true), (7, true), (8, true), (9, true), (10, true), (11, true), (12, true), (13, true), (14, true), (15, true), (16, true), (17, true)] (by kernel_rfl) (by kernel_rfl) (by kernel_rfl) (by kernel_rfl) (entry_row hrow) ?_
          simp only [List.map_cons, List.map_nil, List.getElem?_toArray, List.getElem?_cons_zero, List.getElem?_cons_succ]
          repeat (first | (refine Plan.take ?_ (by rfl) ?_ ?_; rotate_left; (· rintro w9 ⟨u0, u1, u2, u3, u4, u5⟩; go_simp; (try rw [if_neg (by omega)]); all_goals (with_reducible rfl)); simp only [Act.put, List.setIfInBounds_toArray, List.set_cons_zero, List.set_cons_succ]) | (refine Plan.pass (by rfl) ?_; simp only [Act.put, List.setIfInBounds_toArray, List.set_cons_zero, List.set_cons_succ]))
          refine Plan.call (by rfl) 60 _ ?_ (HE.out _) ?_
          · go_simp
          rintro e9 v1 ⟨rfl, hb1⟩
          refine ⟨_, rfl, (entry_row (e_on hb1 hrow (e_lt hrow))), ?_⟩
          simp only [Act.put, List.setIfInBounds_toArray, List.set_cons_zero, List.set_cons_succ]
          repeat (first | (refine Plan.take ?_ (by rfl) ?_ ?_; rotate_left; (· rintro w9 ⟨u0, u1, u2, u3, u4, u5⟩; go_simp; (try rw [if_neg (by omega)]); all_goals (with_reducible rfl)); simp only [Act.put, List.setIfInBounds_toArray, List.set_cons_zero, List.set_cons_succ]) | (refine Plan.pass (by rfl) ?_; simp only [Act.put, List.setIfInBounds_toArray, List.set_cons_zero, List.set_cons_succ]))
          refine Plan.ends ?_
          have b9 := b1.drew.trans (hb1.mono b1.size)
          clear hrow c0 c1 c2 c3 c4 c5
          go_wp2_with fail
          go_roundw
          case rel => exact ⟨j + 1, by go_num, by omega, hN, b9⟩
          case measure => simp [intOf]; omega
        · obtain ⟨p, hp⟩ : ∃ p, j = p + 1 := ⟨j - 1, by omega⟩
          obtain ⟨x', f, hx', hf, hatf⟩ := HAT.out wr hb p (by omega)
          obtain rfl := Option.some.inj hx'
          have hpc := hatf.1
          have hpl := hatf.lt
          have hpI : (p : Int) < (len : Int) := by omega
          have hokF : okAt L j = true ↔ f.block < e.block := by
            rw [hokI]
            have hf' : L[j - 1]? = some f := by rw [hp]; exact hf
            exact ⟨fun h => h.2 f (by omega) hf', fun h => ⟨hok, fun d _ hd => by rw [hf'] at hd; obtain rfl := Option.some.inj hd; exact h⟩⟩
          have hpck := Lib.hid (fun v1 (h : Below wr.heap.size wr v1) => (h.cell (by rw [ent_add_block]; exact hpl)).trans hpc)
          have hpw : IntKind.i64.wrap ((j : Int) - 1) = (p : Int) := by rw [IntWalk.i64_in _ (by omega)]; omega
          have d1 : decide (0 < (j : Int)) = true := by simp; omega
          have d2 : decide (0 < j) = true := by simp; omega
          have hj0 : (0 : Int) < (j : Int) := by omega
          clear hatf hok hokI h0 hf hp hx' hpc
          generalize f.block = D at *
          obtain ⟨b, k, v, m, z, o⟩ := e
          try simp only at hat HE hokF
          obtain ⟨a0, a1, a2, a3, a4, a5⟩ := hat
          by_cases hBD : b ≤ D
          · have hA : okAt L j = false := by
              cases hA : okAt L j
              · rfl
              · have := hokF.1 hA; omega
            have hR := Lib.hid (HN.out hA)
            have d3 : decide (b ≤ D) = true := by simpa using hBD
            clear hokF hA he
            go_wp2_with fail
            have hrow := heap_alloc_new wr (entRow b k v m z o)
            have hpc1 := hpck.out (wr.alloc (entRow b k v m z o)) ((Below.refl _ _).alloc (Nat.le_refl _) _)
            have b1 := hb.alloc hb.size (entRow b k v m z o)
            generalize hw1 : wr.alloc (entRow b k v m z o) = w1 at *
            obtain ⟨c0, c1, c2, c3, c4, c5⟩ := entry_row hrow
            refine Plan.start (fun W => SixP W wr.heap.size b k v m z o ∧ W.cell? (x.add (p * 6)) = some (.int .i64 D)) [(0, true), (1, false), (2, true), (3, true), (4, true), (5, true), (6, true), (7, true), (8, true), (9, true), (10, true), (11, true), (12, true), (13, true), (14, true), (15, true), (16, true), (17, true)] (by kernel_rfl) (by kernel_rfl) (by kernel_rfl) (by kernel_rfl) ⟨entry_row hrow, hpc1⟩ ?_
            simp only [List.map_cons, List.map_nil, List.getElem?_toArray, List.getElem?_cons_zero, List.getElem?_cons_succ]
            repeat (first | (refine Plan.take ?_ (by rfl) ?_ ?_; rotate_left; (· rintro w9 ⟨⟨u0, u1, u2, u3, u4, u5⟩, u6⟩; go_simp; (try rw [if_neg (by omega)]); all_goals (with_reducible rfl)); simp only [Act.put, List.setIfInBounds_toArray, List.set_cons_zero, List.set_cons_succ]) | (refine Plan.pass (by rfl) ?_; simp only [Act.put, List.setIfInBounds_toArray, List.set_cons_zero, List.set_cons_succ]))
            refine Plan.call (by rfl) 60 _ ?_ (HE.out _) ?_
            · go_simp
            rintro e9 v1 ⟨rfl, hb1⟩
            refine ⟨_, rfl, ⟨entry_row (e_on hb1 hrow (e_lt hrow)), (hb1.cell (by rw [ent_add_block]; exact Nat.lt_of_lt_of_le hpl (by rw [← hw1]; simp))).trans hpc1⟩, ?_⟩
            simp only [Act.put, List.setIfInBounds_toArray, List.set_cons_zero, List.set_cons_succ]
            repeat (first | (refine Plan.take ?_ (by rfl) ?_ ?_; rotate_left; (· rintro w9 ⟨⟨u0, u1, u2, u3, u4, u5⟩, u6⟩; go_simp; (try rw [if_neg (by omega)]); all_goals (with_reducible rfl)); simp only [Act.put, List.setIfInBounds_toArray, List.set_cons_zero, List.set_cons_succ]) | (refine Plan.pass (by rfl) ?_; simp only [Act.put, List.setIfInBounds_toArray, List.set_cons_zero, List.set_cons_succ]))
            refine Plan.ends ?_
            have b9 := b1.drew.trans (hb1.mono b1.size)
            clear hrow c0 c1 c2 c3 c4 c5 hpc1
            go_wp2_with fail
            go_ret
            exact ⟨by rw [hR.out]; rfl, b9⟩
          · have hN := Lib.hid (hnx.out (hokF.2 (by omega)))
            have d3 : decide (b ≤ D) = false := by simpa using hBD
            clear hokF he
            go_wp2_with fail
            have hrow := heap_alloc_new wr (entRow b k v m z o)
            have hpc1 := hpck.out (wr.alloc (entRow b k v m z o)) ((Below.refl _ _).alloc (Nat.le_refl _) _)
            have b1 := hb.alloc hb.size (entRow b k v m z o)
            generalize hw1 : wr.alloc (entRow b k v m z o) = w1 at *
            obtain ⟨c0, c1, c2, c3, c4, c5⟩ := entry_row hrow
            refine Plan.start (fun W => SixP W wr.heap.size b k v m z o ∧ W.cell? (x.add (p * 6)) = some (.int .i64 D)) [(0, true), (1, false), (2, true), (3, true), (4, true), (5, true), (6, true), (7, true), (8, true), (9, true), (10, true), (11, true), (12, true), (13, true), (14, true), (15, true), (16, true), (17, true)] (by kernel_rfl) (by kernel_rfl) (by kernel_rfl) (by kernel_rfl) ⟨entry_row hrow, hpc1⟩ ?_
            simp only [List.map_cons, List.map_nil, List.getElem?_toArray, List.getElem?_cons_zero, List.getElem?_cons_succ]
            repeat (first | (refine Plan.take ?_ (by rfl) ?_ ?_; rotate_left; (· rintro w9 ⟨⟨u0, u1, u2, u3, u4, u5⟩, u6⟩; go_simp; (try rw [if_neg (by omega)]); all_goals (with_reducible rfl)); simp only [Act.put, List.setIfInBounds_toArray, List.set_cons_zero, List.set_cons_succ]) | (refine Plan.pass (by rfl) ?_; simp only [Act.put, List.setIfInBounds_toArray, List.set_cons_zero, List.set_cons_succ]))
            refine Plan.call (by rfl) 60 _ ?_ (HE.out _) ?_
            · go_simp
            rintro e9 v1 ⟨rfl, hb1⟩
            refine ⟨_, rfl, ⟨entry_row (e_on hb1 hrow (e_lt hrow)), (hb1.cell (by rw [ent_add_block]; exact Nat.lt_of_lt_of_le hpl (by rw [← hw1]; simp))).trans hpc1⟩, ?_⟩
            simp only [Act.put, List.setIfInBounds_toArray, List.set_cons_zero, List.set_cons_succ]
            repeat (first | (refine Plan.take ?_ (by rfl) ?_ ?_; rotate_left; (· rintro w9 ⟨⟨u0, u1, u2, u3, u4, u5⟩, u6⟩; go_simp; (try rw [if_neg (by omega)]); all_goals (with_reducible rfl)); simp only [Act.put, List.setIfInBounds_toArray, List.set_cons_zero, List.set_cons_succ]) | (refine Plan.pass (by rfl) ?_; simp only [Act.put, List.setIfInBounds_toArray, List.set_cons_zero, List.set_cons_succ]))
            refine Plan.ends ?_
            have b9 := b1.drew.trans (hb1.mono b1.size)
            clear hrow c0 c1 c2 c3 c4 c5 hpc1
            go_wp2_with fail
            go_roundw
            case rel => exact ⟨j + 1, by go_num, by omega, hN, b9⟩
            case measure => simp [intOf]; omega
    · obtain rfl : j = len := by omega
      have hR := Lib.hid (HALL.out (fun i hi => hbf.out i (by omega)))
      go_wp2_with fail
      go_ret
      exact ⟨by rw [hR.out]; rfl, hb⟩
end Go.Proofs.Ytljobnfilnbefaa.Ents

/- The walk of the program's Find. -/
namespace Go.Proofs.Ytljobnfilnbefaa.Ents
open Go.RowKit Plan EntMath
theorem place_some {L : List Ent} {b : Int} {x : Ent} (hA : Asc L) (h : lookE L b = some x) : L[place L b]? = some x := by
  rw [look_place hA] at h
  split at h
  · cases h
  · rename_i y hy
    split at h
    · obtain rfl := Option.some.inj h
      exact hy
    · cases h
theorem place_in {L : List Ent} {b : Int} {x : Ent} (hA : Asc L) (h : lookE L b = some x) : place L b < L.length := (List.getElem?_eq_some_iff.1 (place_some hA h)).1
set_option maxHeartbeats 2000000 in
set_option maxRecDepth 20000 in
theorem find_any (F : Nat → Prop) (L : List Ent) (b : Int) (a : Option Addr) (len cap : Nat) (w : World) (hl : EList w F a len cap L) (hm : len ≤ 1000000) :
    Calls Try.prog 42 #[.slice a len cap, .int .i64 b] w fun r w' => r = .returned (findV L b) ∧ Below w.heap.size w w' := by
  have hlen := hl.length
  have hA := (Below.refl w.heap.size w).alloc (Nat.le_refl _) (entRow 0 0 0 0 0 0)
  have hr0 := heap_alloc_new w (entRow 0 0 0 0 0 0)
  have HV := Lib.hid (fun W (h : Below w.heap.size w W) => valid_any _ L a len cap W (hl.low.on (Same.low h)))
  have HAT := Lib.hid (fun W (h : Below w.heap.size w W) i (hi : i < len) => (hl.low.on (Same.low h)).ent i hi)
  cases hva : validB L
  · rw [hva] at HV
    have H1 := Lib.hid (findV_none (b := b) (find_invalid (L := L) hva))
    clear hl hva HAT
    generalize findV L b = V at *
    go_enter Try.func42, Try.ntmps42
    generalize hw0 : w.alloc (entRow 0 0 0 0 0 0) = w0 at *
    go_wp2_with (first
      | (go_at_call 56; ((with_reducible refine (HV.out _ hA).mono ?_); rintro e w1 ⟨rfl, hb1⟩; have hr1 := e_on hb1 hr0 (e_lt hr0); have b1 := hA.trans (hb1.mono hA.size)))
      | ((with_reducible refine Plan.store_lit 28 (.tmp 4) _ (w.heap.size) ?_ hr1 ?_ ?_ ?_ ?_ ?_ ?_); rotate_left; (· rfl); (· rfl); (· exact entry_info); (· rfl); (· simp [Value.oneCell']); simp only [Act.put]))
    exact bodyPost_ret (Plan.results_cell_tmp (p := 4) (q := 5) rfl _ _ _ _ _ _ _ rfl (setRow_heap _ _ _ _ _ _ hr1) Try.underlying28 rfl entry_info) rfl ⟨e_v H1.out.symm, below_setRow b1 (Nat.le_refl _) _⟩
  · rw [hva] at HV
    have hasc := (valid_iff.1 hva).2
    have HI := Lib.hid (fun W (h : Below w.heap.size w W) => index_any _ L b a len cap W (hl.low.on (Same.low h)) hasc hm)
    have hfl := find_look hva b
    unfold IndexPost at HI
    cases hlk : lookE L b with
    | none =>
      rw [hlk] at HI hfl
      have H1 := Lib.hid (findV_none (b := b) hfl)
      clear hl hva hasc hfl hlk HAT
      generalize findV L b = V at *
      go_enter Try.func42, Try.ntmps42
      generalize hw0 : w.alloc (entRow 0 0 0 0 0 0) = w0 at *
      go_wp2_with (first
        | (go_at_call 56; ((with_reducible refine (HV.out _ hA).mono ?_); rintro e w1 ⟨rfl, hb1⟩; have hr1 := e_on hb1 hr0 (e_lt hr0); have b1 := hA.trans (hb1.mono hA.size)))
        | (go_at_call 58; ((with_reducible refine (HI.out _ b1).mono ?_); rintro e w2 ⟨rfl, hb2⟩; have hr2 := e_on hb2 hr1 (e_lt hr1); have b2 := b1.trans (hb2.mono b1.size)))
        | ((with_reducible refine Plan.store_lit 28 (.tmp 4) _ (w.heap.size) ?_ hr2 ?_ ?_ ?_ ?_ ?_ ?_); rotate_left; (· rfl); (· rfl); (· exact entry_info); (· rfl); (· simp [Value.oneCell']); simp only [Act.put]))
      exact bodyPost_ret (Plan.results_cell_tmp (p := 4) (q := 5) rfl _ _ _ _ _ _ _ rfl (setRow_heap _ _ _ _ _ _ hr2) Try.underlying28 rfl entry_info) rfl ⟨e_v H1.out.symm, below_setRow b2 (Nat.le_refl _) _⟩
    | some x =>
      rw [hlk] at HI hfl
      have H1 := Lib.hid (findV_some (b := b) hfl)
      have hat := place_some hasc hlk
      have hin := place_in hasc hlk
      rw [hlen] at hin
      generalize findV L b = V at *
      generalize place L b = k at *
      have hc := fun W (h : Below w.heap.size w W) => (show ∃ y, a = some y ∧ EntAt W y k x from by
        obtain ⟨y, e', rfl, he', h'⟩ := HAT.out W h k hin
        rw [hat] at he'
        obtain rfl := Option.some.inj he'
        exact ⟨y, rfl, h'⟩)
      obtain ⟨y, rfl, -⟩ := hc w (Below.refl _ _)
      have HC := Lib.hid (fun W (h : Below w.heap.size w W) => (show EntAt W y k x from by
        obtain ⟨y', hy, h'⟩ := hc W h
        obtain rfl := Option.some.inj hy
        exact h'))
      have hkI : (k : Int) < (len : Int) := by omega
      obtain ⟨eb, ek, ev, em, ez, eo⟩ := x
      try simp only at HC H1
      clear hl hva hasc hfl hlk HAT hc hat
      go_enter Try.func42, Try.ntmps42
      generalize hw0 : w.alloc (entRow 0 0 0 0 0 0) = w0 at *
      go_wp2_with (first
        | (go_at_call 56; ((with_reducible refine (HV.out _ hA).mono ?_); rintro e w1 ⟨rfl, hb1⟩; have hr1 := e_on hb1 hr0 (e_lt hr0); have b1 := hA.trans (hb1.mono hA.size)))
        | (go_at_call 58; ((with_reducible refine (HI.out _ b1).mono ?_); rintro e w2 ⟨rfl, hb2⟩; have hr2 := e_on hb2 hr1 (e_lt hr1); have b2 := b1.trans (hb2.mono b1.size); obtain ⟨c0, c1, c2, c3, c4, c5⟩ := HC.out _ b2))
        | ((with_reducible refine Plan.store_lit 28 (.tmp 4) _ (w.heap.size) ?_ hr2 ?_ ?_ ?_ ?_ ?_ ?_); rotate_left; (· rfl); (· rfl); (· exact entry_info); (· rfl); (· simp [Value.oneCell']); simp only [Act.put]))
      exact bodyPost_ret (Plan.results_cell_tmp (p := 4) (q := 5) rfl _ _ _ _ _ _ _ rfl (setRow_heap _ _ _ _ _ _ hr2) Try.underlying28 rfl entry_info) rfl ⟨e_v H1.out.symm, below_setRow b2 (Nat.le_refl _) _⟩
end Go.Proofs.Ytljobnfilnbefaa.Ents

/- The walk of the law's entry: an entry that is made of numbers, for any dice. -/
namespace Go.Proofs.Ytljobnfilnbefaa.Ents
open Go.RowKit Plan EntMath
/-- the entry that is made -/
def mkK (zs : List Int) (k : Nat) : Int := if nxt zs (stp zs (stp zs (stp zs (stp zs (stp zs k))))) 3 = 2 then 2 else 1
def mkE (zs : List Int) (k : Nat) : Ent := ⟨nxt zs k 5, mkK zs k, 1 + nxt zs (stp zs k) 12, nxt zs (stp zs (stp zs k)) 3, nxt zs (stp zs (stp zs (stp zs k))) 4, nxt zs (stp zs (stp zs (stp zs (stp zs k)))) 4⟩
def stp6 (zs : List Int) (k : Nat) : Nat := stp zs (stp zs (stp zs (stp zs (stp zs (stp zs k)))))
theorem mk_ok (zs : List Int) (k : Nat) : okE (mkE zs k) = true ∧ 0 ≤ (mkE zs k).block ∧ (mkE zs k).block ≤ 4 ∧ (mkE zs k).version ≤ 12 ∧ (mkE zs k).move ≤ 2 := by
  have h1 := nxt_range zs k 5 (by decide)
  have h2 := nxt_range zs (stp zs k) 12 (by decide)
  have h3 := nxt_range zs (stp zs (stp zs k)) 3 (by decide)
  have h4 := nxt_range zs (stp zs (stp zs (stp zs k))) 4 (by decide)
  have h5 := nxt_range zs (stp zs (stp zs (stp zs (stp zs k)))) 4 (by decide)
  have hk : mkK zs k = 1 ∨ mkK zs k = 2 := by
    unfold mkK
    split
    · exact .inr rfl
    · exact .inl rfl
  refine ⟨ok_iff.2 ?_, ?_⟩
  · unfold mkE
    simp only
    refine ⟨hk, ?_⟩
    omega
  · unfold mkE
    simp only
    omega
theorem ent_dice_alloc {w : World} {base g : Nat} {zs : List Int} {k : Nat} (h : Dice w base g zs k) (o : Obj) : Dice (w.alloc o) base g zs k := dice_on h ((Below.refl _ _).alloc (Nat.le_refl _) o) (Nat.le_refl _)
theorem ent_row_grown {a b : World} {g x : Nat} {o : Obj} (h : a.grownBy b (some g)) (hx : a.heap[x]? = some o) (hne : x ≠ g) : b.heap[x]? = some o :=
  (h.block x (Array.getElem?_eq_some_iff.1 hx).1 (fun e => hne (Option.some.inj e))).trans hx
theorem ent_grown_row {a b : World} {r : Option Nat} (h : a.grownBy b r) {x : Nat} (hx : a.heap.size ≤ x) (cs : Array Value) : a.grownBy (b.setRow x cs) r :=
  ⟨h.os, h.tape, h.output, Nat.le_trans h.size (Nat.le_of_eq (by simp [World.setRow])), fun i hi hr => (setRow_other b x i cs (by omega)).trans (h.block i hi hr)⟩
theorem ent_alloc {a b : World} {r : Option Nat} (h : a.grownBy b r) (o : Obj) : a.grownBy (b.alloc o) r :=
  ⟨h.os, h.tape, h.output, Nat.le_trans h.size (by simp), fun i hi hr => (Below.heap_alloc _ _ _ (Nat.lt_of_lt_of_le hi h.size)).trans (h.block i hi hr)⟩
def EntryPost (w : World) (base g : Nat) (zs : List Int) (k : Nat) (r : Ending) (w' : World) : Prop :=
  r = .returned (entV (mkE zs k)) ∧ Dice w' base g zs (stp6 zs k) ∧ w.grownBy w' (some g)
end Go.Proofs.Ytljobnfilnbefaa.Ents

/- The walk of the ninth law's entry: an entry that is made of numbers, for any dice. -/
namespace Go.Proofs.Ytljobnfilnbefaa.Ents
open Go.RowKit Plan EntMath
/-- the entry that is made -/
def mk9K (zs : List Int) (k : Nat) : Int := if nxt zs (stp zs (stp zs (stp zs (stp zs k)))) 3 = 2 then 2 else 1
def mk9E (zs : List Int) (k : Nat) : Ent := ⟨nxt zs k 9, mk9K zs k, 1 + nxt zs (stp zs k) 30, 0, nxt zs (stp zs (stp zs k)) 4, nxt zs (stp zs (stp zs (stp zs k))) 4⟩
def stp5 (zs : List Int) (k : Nat) : Nat := stp zs (stp zs (stp zs (stp zs (stp zs k))))
theorem mk9_ok (zs : List Int) (k : Nat) : okE (mk9E zs k) = true ∧ 0 ≤ (mk9E zs k).block ∧ (mk9E zs k).block ≤ 8 ∧ (mk9E zs k).version ≤ 30 := by
  have h1 := nxt_range zs k 9 (by decide)
  have h2 := nxt_range zs (stp zs k) 30 (by decide)
  have h4 := nxt_range zs (stp zs (stp zs k)) 4 (by decide)
  have h5 := nxt_range zs (stp zs (stp zs (stp zs k))) 4 (by decide)
  have hk : mk9K zs k = 1 ∨ mk9K zs k = 2 := by
    unfold mk9K
    split
    · exact .inr rfl
    · exact .inl rfl
  refine ⟨ok_iff.2 ?_, ?_⟩
  · unfold mk9E
    simp only
    refine ⟨hk, ?_⟩
    omega
  · unfold mk9E
    simp only
    omega
def EntryPost9 (w : World) (base g : Nat) (zs : List Int) (k : Nat) (r : Ending) (w' : World) : Prop :=
  r = .returned (entV (mk9E zs k)) ∧ Dice w' base g zs (stp5 zs k) ∧ w.grownBy w' (some g)
set_option maxHeartbeats 2000000 in
set_option maxRecDepth 20000 in
theorem lawEntry9_any (w : World) (base g : Nat) (zs : List Int) (k : Nat) (hd : Dice w base g zs k) (hl : zs.length ≤ 100000) :
    Calls Try.prog 17 #[.pointer (some ⟨g, 0, none⟩)] w (EntryPost9 w base g zs k) := by
  have hg := dice_lt hd
  have hn0 : ∀ W, Dice W base g zs k → Calls Try.prog 19 #[.pointer (some ⟨g, 0, none⟩), .int .i64 9] W (NextPost W base g zs k 9) := fun W h => next_any W base g zs _ 9 h hl (by decide) (by decide)
  have hn1 : ∀ W, Dice W base g zs (stp zs k) → Calls Try.prog 19 #[.pointer (some ⟨g, 0, none⟩), .int .i64 30] W (NextPost W base g zs (stp zs k) 30) := fun W h => next_any W base g zs _ 30 h hl (by decide) (by decide)
  have hn2 : ∀ W, Dice W base g zs (stp zs (stp zs k)) → Calls Try.prog 19 #[.pointer (some ⟨g, 0, none⟩), .int .i64 4] W (NextPost W base g zs (stp zs (stp zs k)) 4) := fun W h => next_any W base g zs _ 4 h hl (by decide) (by decide)
  have hn3 : ∀ W, Dice W base g zs (stp zs (stp zs (stp zs k))) → Calls Try.prog 19 #[.pointer (some ⟨g, 0, none⟩), .int .i64 4] W (NextPost W base g zs (stp zs (stp zs (stp zs k))) 4) := fun W h => next_any W base g zs _ 4 h hl (by decide) (by decide)
  have hn4 : ∀ W, Dice W base g zs (stp zs (stp zs (stp zs (stp zs k)))) → Calls Try.prog 19 #[.pointer (some ⟨g, 0, none⟩), .int .i64 3] W (NextPost W base g zs (stp zs (stp zs (stp zs (stp zs k)))) 3) := fun W h => next_any W base g zs _ 3 h hl (by decide) (by decide)
  have r1 := nxt_range zs (stp zs k) 30 (by decide)
  unfold EntryPost9 mk9E mk9K entV stp5
  unfold NextPost at hn0 hn1 hn2 hn3 hn4
  generalize nxt zs k 9 = N0 at *
  generalize nxt zs (stp zs k) 30 = N1 at *
  generalize nxt zs (stp zs (stp zs k)) 4 = N2 at *
  generalize nxt zs (stp zs (stp zs (stp zs k))) 4 = N3 at *
  generalize nxt zs (stp zs (stp zs (stp zs (stp zs k)))) 3 = N4 at *
  have N0H := Lib.hid hn0
  have N1H := Lib.hid hn1
  have N2H := Lib.hid hn2
  have N3H := Lib.hid hn3
  have N4H := Lib.hid hn4
  clear hn0 hn1 hn2 hn3 hn4
  have hq0 := heap_alloc_new w (entRow 0 0 0 0 0 0)
  have G0 : w.grownBy (w.alloc (entRow 0 0 0 0 0 0)) (some g) := ent_alloc ⟨rfl, rfl, rfl, Nat.le_refl _, fun _ _ _ => rfl⟩ _
  have hd0 := ent_dice_alloc hd (entRow 0 0 0 0 0 0)
  have hz0 : (w.alloc (entRow 0 0 0 0 0 0)).heap.size = w.heap.size + 1 := World.size_alloc _ _
  have hgw : w.heap.size ≠ g := by omega
  have hgw1 : w.heap.size + 1 ≠ g := by omega
  obtain ⟨r10, r11⟩ := r1
  clear hd
  have hT : N4 = 2 ∨ ¬ N4 = 2 := Classical.em _
  rcases hT with hT | hT
  · subst hT
    go_enter Try.func17, Try.ntmps17
    generalize hw0 : w.alloc (entRow 0 0 0 0 0 0) = w0 at *
    go_wp2_with (first
      | (go_at_call 19; ((with_reducible refine (N0H.out _ hd0).mono ?_); rintro e w1 ⟨rfl, hd1, hg1, hs1⟩; have hq1 := ent_row_grown hg1 hq0 hgw; have G1 := grownBy_trans G0 hg1))
      | (go_at_call 19; ((with_reducible refine (N1H.out _ hd1).mono ?_); rintro e w2 ⟨rfl, hd2, hg2, hs2⟩; have hq2 := ent_row_grown hg2 hq1 hgw; have G2 := grownBy_trans G1 hg2))
      | (go_at_call 19; ((with_reducible refine (N2H.out _ hd2).mono ?_); rintro e w3 ⟨rfl, hd3, hg3, hs3⟩; have hq3 := ent_row_grown hg3 hq2 hgw; have G3 := grownBy_trans G2 hg3))
      | (go_at_call 19; ((with_reducible refine (N3H.out _ hd3).mono ?_); rintro e w4 ⟨rfl, hd4, hg4, hs4⟩; have hq4 := ent_row_grown hg4 hq3 hgw; have G4 := grownBy_trans G3 hg4))
      | (go_at_call 19; ((with_reducible refine (N4H.out _ (ent_dice_alloc hd4 (entRow N0 1 (1 + N1) 0 N2 N3))).mono ?_); rintro e w6 ⟨rfl, hd6, hg6, hs6⟩; have hq6 := ent_row_grown hg6 (e_al hq4 (entRow N0 1 (1 + N1) 0 N2 N3)) hgw; have G6 := grownBy_trans (ent_alloc G4 (entRow N0 1 (1 + N1) 0 N2 N3)) hg6; have hX : w4.heap.size = w.heap.size + 1 := (by omega); have hrow6 := ent_row_grown hg6 (show (w4.alloc (entRow N0 1 (1 + N1) 0 N2 N3)).heap[w.heap.size + 1]? = some (entRow N0 1 (1 + N1) 0 N2 N3) from (by have h9 := heap_alloc_new w4 (entRow N0 1 (1 + N1) 0 N2 N3); rw [hX] at h9; exact h9)) hgw1; obtain ⟨c0, c1, c2, c3, c4, c5⟩ := entry_row hrow6; have f1 : w6.frozen? ⟨w.heap.size + 1, 1, none⟩ = false := (by simp [World.frozen?, hrow6]); have hrow7 := setRow_heap w6 (w.heap.size + 1) _ #[.int .i64 N0, .int .i64 2, .int .i64 (1 + N1), .int .i64 0, .int .i64 N2, .int .i64 N3] _ _ hrow6; have e7 := setCell_eq_setRow w6 (w.heap.size + 1) 1 _ _ _ (.int .i64 2) hrow6; have hq7 := (setRow_other w6 (w.heap.size + 1) w.heap.size #[.int .i64 N0, .int .i64 2, .int .i64 (1 + N1), .int .i64 0, .int .i64 N2, .int .i64 N3] (by omega)).trans hq6; rw [show (#[(.int .i64 N0 : Value), .int .i64 1, .int .i64 (1 + N1), .int .i64 0, .int .i64 N2, .int .i64 N3] : Array Value).setIfInBounds 1 (.int .i64 2) = #[.int .i64 N0, .int .i64 2, .int .i64 (1 + N1), .int .i64 0, .int .i64 N2, .int .i64 N3] from rfl] at e7))
      | ((with_reducible refine Plan.load_lit 28 (.tmp 3) (w.heap.size + 1) ?_ hrow7 Try.underlying28 ?_ ?_ ?_); (· rfl); (· rfl); (· exact entry_info); simp only [Act.put, List.setIfInBounds_toArray, List.set_cons_zero, List.set_cons_succ])
      | ((with_reducible refine Plan.store_lit 28 (.tmp 2) _ w.heap.size ?_ hq7 ?_ ?_ ?_ ?_ ?_ ?_); rotate_left; (· rfl); (· rfl); (· exact entry_info); (· rfl); (· simp [Value.oneCell']); simp only [Act.put]))
    have hd7 := dice_far hd6 (sm_setRow w6 (w.heap.size + 1) #[.int .i64 N0, .int .i64 2, .int .i64 (1 + N1), .int .i64 0, .int .i64 N2, .int .i64 N3]) (by omega)
    have G7 := ent_grown_row G6 (show w.heap.size ≤ w.heap.size + 1 by omega) #[.int .i64 N0, .int .i64 2, .int .i64 (1 + N1), .int .i64 0, .int .i64 N2, .int .i64 N3]
    exact bodyPost_ret (results_cell_row rfl _ _ _ _ _ _ _ rfl (setRow_heap _ _ _ #[.int .i64 N0, .int .i64 2, .int .i64 (1 + N1), .int .i64 0, .int .i64 N2, .int .i64 N3] _ _ hq7) Try.underlying28 rfl entry_info) rfl ⟨by first | rfl | rw [if_pos rfl], dice_far hd7 (sm_setRow _ _ _) hg, ent_grown_row G7 (Nat.le_refl _) _⟩
  · have hTT : (N4 == 2) = false := by simpa using hT
    go_enter Try.func17, Try.ntmps17
    generalize hw0 : w.alloc (entRow 0 0 0 0 0 0) = w0 at *
    go_wp2_with (first
      | (go_at_call 19; ((with_reducible refine (N0H.out _ hd0).mono ?_); rintro e w1 ⟨rfl, hd1, hg1, hs1⟩; have hq1 := ent_row_grown hg1 hq0 hgw; have G1 := grownBy_trans G0 hg1))
      | (go_at_call 19; ((with_reducible refine (N1H.out _ hd1).mono ?_); rintro e w2 ⟨rfl, hd2, hg2, hs2⟩; have hq2 := ent_row_grown hg2 hq1 hgw; have G2 := grownBy_trans G1 hg2))
      | (go_at_call 19; ((with_reducible refine (N2H.out _ hd2).mono ?_); rintro e w3 ⟨rfl, hd3, hg3, hs3⟩; have hq3 := ent_row_grown hg3 hq2 hgw; have G3 := grownBy_trans G2 hg3))
      | (go_at_call 19; ((with_reducible refine (N3H.out _ hd3).mono ?_); rintro e w4 ⟨rfl, hd4, hg4, hs4⟩; have hq4 := ent_row_grown hg4 hq3 hgw; have G4 := grownBy_trans G3 hg4))
      | (go_at_call 19; ((with_reducible refine (N4H.out _ (ent_dice_alloc hd4 (entRow N0 1 (1 + N1) 0 N2 N3))).mono ?_); rintro e w6 ⟨rfl, hd6, hg6, hs6⟩; have hq6 := ent_row_grown hg6 (e_al hq4 (entRow N0 1 (1 + N1) 0 N2 N3)) hgw; have G6 := grownBy_trans (ent_alloc G4 (entRow N0 1 (1 + N1) 0 N2 N3)) hg6; have hX : w4.heap.size = w.heap.size + 1 := (by omega); have hrow6 := ent_row_grown hg6 (show (w4.alloc (entRow N0 1 (1 + N1) 0 N2 N3)).heap[w.heap.size + 1]? = some (entRow N0 1 (1 + N1) 0 N2 N3) from (by have h9 := heap_alloc_new w4 (entRow N0 1 (1 + N1) 0 N2 N3); rw [hX] at h9; exact h9)) hgw1; obtain ⟨c0, c1, c2, c3, c4, c5⟩ := entry_row hrow6; have f1 : w6.frozen? ⟨w.heap.size + 1, 1, none⟩ = false := (by simp [World.frozen?, hrow6])))
      | ((with_reducible refine Plan.load_lit 28 (.tmp 3) (w.heap.size + 1) ?_ hrow6 Try.underlying28 ?_ ?_ ?_); (· rfl); (· rfl); (· exact entry_info); simp only [Act.put, List.setIfInBounds_toArray, List.set_cons_zero, List.set_cons_succ])
      | ((with_reducible refine Plan.store_lit 28 (.tmp 2) _ w.heap.size ?_ hq6 ?_ ?_ ?_ ?_ ?_ ?_); rotate_left; (· rfl); (· rfl); (· exact entry_info); (· rfl); (· simp [Value.oneCell']); simp only [Act.put]))
    exact bodyPost_ret (results_cell_row rfl _ _ _ _ _ _ _ rfl (setRow_heap _ _ _ _ _ _ hq6) Try.underlying28 rfl entry_info) rfl ⟨by first | rfl | rw [if_neg hT], dice_far hd6 (sm_setRow _ _ _) hg, ent_grown_row G6 (Nat.le_refl _) _⟩
/-- an entry that is made of numbers -/
def Rolled9 (w : World) (base g : Nat) (zs : List Int) (k : Nat) (r : Ending) (w' : World) : Prop :=
  ∃ (eb ek ev em ez eo : Int), r = .returned (.agg #[.int .i64 eb, .int .i64 ek, .int .i64 ev, .int .i64 em, .int .i64 ez, .int .i64 eo]) ∧ okE ⟨eb, ek, ev, em, ez, eo⟩ = true ∧ (0 ≤ eb ∧ eb ≤ 8) ∧ ev ≤ 30 ∧ Dice w' base g zs (stp5 zs k) ∧ w.grownBy w' (some g)
theorem rolled9_any (w : World) (base g : Nat) (zs : List Int) (k : Nat) (hd : Dice w base g zs k) (hl : zs.length ≤ 100000) :
    Calls Try.prog 17 #[.pointer (some ⟨g, 0, none⟩)] w (Rolled9 w base g zs k) :=
  (lawEntry9_any w base g zs k hd hl).mono fun r w' h => by
    obtain ⟨rfl, h2, h3⟩ := h
    obtain ⟨o1, o2, o3, o4⟩ := mk9_ok zs k
    exact ⟨_, _, _, _, _, _, rfl, o1, ⟨o2, o3⟩, o4, h2, h3⟩
end Go.Proofs.Ytljobnfilnbefaa.Ents

/- What the program's shard is to do, in the words of the contracts of the document's own; the walk of the law's agree under it. -/
namespace Go.Proofs.Ytljobnfilnbefaa.Ents
open Go.RowKit Plan EntMath
structure ShardOk : Prop where
  valid : ∀ (F : Nat → Prop) (L : List Ent) (a : Option Addr) (len cap : Nat) (w : World), EList w F a len cap L → len ≤ 100000 →
    Calls Try.prog 56 #[.slice a len cap] w fun r w' => r = .returned (.bool (validB L)) ∧ Below w.heap.size w w'
  find : ∀ (F : Nat → Prop) (L : List Ent) (b : Int) (a : Option Addr) (len cap : Nat) (w : World), EList w F a len cap L → len ≤ 100000 →
    Calls Try.prog 42 #[.slice a len cap, .int .i64 b] w fun r w' => r = .returned (findV L b) ∧ Below w.heap.size w w'
  install : ∀ (F : Nat → Prop) (L : List Ent) (e : Ent) (a : Option Addr) (len cap : Nat) (w : World), (∀ b, F b → b < w.heap.size) → EList w F a len cap L → len ≤ 100000 →
    Calls Try.prog 44 #[.slice a len cap, entV e] w (InstPost w F (installL L e) (installE L e) (newer L e))
  relocate : ∀ (F : Nat → Prop) (L : List Ent) (b v fz fo tz to m : Int) (a : Option Addr) (len cap : Nat) (w : World), (∀ b, F b → b < w.heap.size) → EList w F a len cap L → len ≤ 100000 →
    Calls Try.prog 43 #[.slice a len cap, .int .i64 b, .int .i64 v, .agg #[.int .i64 fz, .int .i64 fo], .agg #[.int .i64 tz, .int .i64 to], .int .i64 m] w (RelPost w F (relocL L b v fz fo tz to m) (moves L b v fz fo tz to m))
  drop : ∀ (F : Nat → Prop) (L : List Ent) (cut : Int) (a : Option Addr) (len cap : Nat) (w : World), (∀ b, F b → b < w.heap.size) → EList w F a len cap L → len ≤ 100000 →
    Calls Try.prog 39 #[.slice a len cap, .int .i64 cut] w (DropPost w F (stayL L cut) (goneL L cut))
theorem EList.keep {w w' : World} {F : Nat → Prop} {a : Option Addr} {len cap : Nat} {L : List Ent} (h : EList w F a len cap L) (hb : Below w.heap.size w w') : EList w' F a len cap L := h.on (Same.below hb)
end Go.Proofs.Ytljobnfilnbefaa.Ents
