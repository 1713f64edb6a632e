
/- The walks of the library's search at entries, and of the program's index. -/
import Derived.Test.YtbaclgedohpibaaShPLeaf
import Derived.Test.YtbaclgedohpibaaEntSame
namespace Go.Proofs.Ytbaclgedohpibaa.Ents
open Go.RowKit Plan EntMath
theorem cmp_lt {x y : Int} (h : x < y) : cmpI x y = -1 := if_pos h
theorem cmp_ge {x y : Int} (h : y ≤ x) : 0 ≤ cmpI x y := by unfold cmpI; rw [if_neg (by omega)]; split <;> omega
theorem cmp_eq {x : Int} : cmpI x x = 0 := by unfold cmpI; rw [if_neg (by omega), if_neg (by omega)]
theorem cmp_gt {x y : Int} (h : y < x) : cmpI x y = 1 := by unfold cmpI; rw [if_neg (by omega), if_pos h]
theorem asc_at {L : List Ent} (h : Asc L) {i j : Nat} {x y : Ent} (hx : L[i]? = some x) (hy : L[j]? = some y) (hij : i ≤ j) : x.block ≤ y.block := by
  obtain ⟨hi, rfl⟩ := List.getElem?_eq_some_iff.1 hx
  obtain ⟨hj, rfl⟩ := List.getElem?_eq_some_iff.1 hy
  rw [Asc, List.pairwise_iff_getElem] at h
  rcases Nat.lt_or_ge i j with h1 | h1
  · exact Int.le_of_lt (h i j hi hj h1)
  · obtain rfl : i = j := by omega
    exact Int.le_refl _
/-- what the search has found out so far -/
def Split (L : List Ent) (b : Int) (lo hi : Nat) : Prop := (∀ i x, i < lo → L[i]? = some x → x.block < b) ∧ (∀ i x, hi ≤ i → L[i]? = some x → b ≤ x.block)
theorem Split.all (L : List Ent) (b : Int) : Split L b 0 L.length := ⟨fun _ _ h _ => absurd h (Nat.not_lt_zero _), fun _ _ h hx => by have := (List.getElem?_eq_some_iff.1 hx).1; omega⟩
theorem Split.up {L : List Ent} {b : Int} {lo hi m : Nat} (h : Split L b lo hi) (hA : Asc L) {e : Ent} (he : L[m]? = some e) (hb : e.block < b) : Split L b (m + 1) hi :=
  ⟨fun i x hi hx => by have := asc_at hA hx he (by omega); omega, h.2⟩
theorem Split.down {L : List Ent} {b : Int} {lo hi m : Nat} (h : Split L b lo hi) (hA : Asc L) {e : Ent} (he : L[m]? = some e) (hb : b ≤ e.block) : Split L b lo m :=
  ⟨h.1, fun i x hi hx => by have := asc_at hA he hx hi; omega⟩
theorem Split.place {L : List Ent} {b : Int} {k : Nat} (h : Split L b k k) (hk : k ≤ L.length) : place L b = k := place_is h.1 (fun x hx => h.2 k x (Nat.le_refl _) hx) hk
theorem Split.some {L : List Ent} {b : Int} {k : Nat} (h : Split L b k k) (hA : Asc L) (hk : k ≤ L.length) {e : Ent} (he : L[k]? = some e) : (lookE L b).isSome = decide (e.block = b) := by
  rw [look_place hA, h.place hk, he]
  by_cases hb : e.block = b
  · simp [hb]
  · simp [hb]
theorem Split.past {L : List Ent} {b : Int} {k : Nat} (h : Split L b k k) (hA : Asc L) (hk : k = L.length) : (lookE L b).isSome = false := by
  rw [look_place hA, h.place (by omega), List.getElem?_eq_none (by omega)]
  rfl
def IndexPost (w : World) (L : List Ent) (b : Int) (r : Ending) (w' : World) : Prop := r = .returned (.tuple #[.int .i64 (EntMath.place L b : Int), .bool (lookE L b).isSome]) ∧ Below w.heap.size w w'
set_option maxHeartbeats 4000000 in
set_option maxRecDepth 20000 in
theorem search_any (F : Nat → Prop) (L : List Ent) (b : Int) (a : Option Addr) (len cap p : Nat) (w : World) (hl : EList w F a len cap L) (hA : Asc L) (hm : len ≤ 1000000) (hp : w.heap[p]? = some keyRow) :
    Calls Try.prog 34 #[.slice a len cap, .int .i64 b, .func (.func 35) #[] #[.pointer (some ⟨p, 0, none⟩)]] w (IndexPost w L b) := by
  have hlen := hl.length
  have HAT := Lib.hid (fun W (h : Below w.heap.size w W) i (hi : i < len) => (hl.low.on (Same.low h)).ent i hi)
  have HK := Lib.hid (fun W (h : Below w.heap.size w W) e => key_any e b p W (e_on h hp (e_lt hp)))
  have s0 := Split.all L b
  rw [hlen] at s0
  have hupx := fun lo hi m e (h : Split L b lo hi) (he : L[m]? = some e) (hb : e.block < b) => h.up hA he hb
  have hdn := fun lo hi m e (h : Split L b lo hi) (he : L[m]? = some e) (hb : b ≤ e.block) => h.down hA he hb
  have hpl := fun k (h : Split L b k k) (hk : k ≤ len) => h.place (by omega)
  have hso := fun k e (h : Split L b k k) (hk : k ≤ len) (he : L[k]? = some e) => h.some hA (by omega) he
  have hpa := fun (h : Split L b len len) => h.past hA hlen.symm
  unfold IndexPost
  generalize EntMath.place L b = PL at *
  generalize (lookE L b).isSome = FO at *
  generalize Split L b = SP at *
  have S0 := Lib.hid s0
  have HUP := Lib.hid hupx
  have HDN := Lib.hid hdn
  have HPL := Lib.hid hpl
  have HSO := Lib.hid hso
  have HPA := Lib.hid hpa
  clear s0 hupx hdn hpl hso hpa hl hA hp
  go_enter Try.func34, Try.ntmps34
  go_wp2
  go_loopw [9, 10] (fun x y wr => ∃ lo hi : Nat, x = .int .i64 (lo : Int) ∧ y = .int .i64 (hi : Int) ∧ lo ≤ hi ∧ hi ≤ len ∧ RowKit.Hid (SP lo hi) ∧ Below w.heap.size w wr) (fun x y _ => (intOf y).toNat - (intOf x).toNat)
  case atStart => exact ⟨0, len, rfl, rfl, by omega, by omega, S0, Below.refl _ _⟩
  case round =>
    clear S0
    obtain ⟨lo, hi, rfl, rfl, hlh, hhn, hs, hb⟩ := hrel
    by_cases hlt : lo < hi
    · obtain ⟨x, e, rfl, he, hat⟩ := HAT.out wr hb ((lo + hi) / 2) (by omega)
      have hHE := Lib.hid he
      have hk := HK.out wr hb e
      have hltI : (lo : Int) < (hi : Int) := by omega
      by_cases hlb : e.block < b
      · rw [cmp_lt hlb] at hk
        have hn := Lib.hid (HUP.out lo hi _ e hs.out he hlb)
        clear he
        obtain ⟨eb, ek, ev, em, ez, eo⟩ := e
        try simp only at hk hat hlb
        obtain ⟨c0, c1, c2, c3, c4, c5⟩ := hat
        clear hlb
        have hk := Lib.hid hk
        go_wp2_with (first
          | (go_at_call 35; ((with_reducible refine hk.out.mono ?_); rintro e9 w1 ⟨rfl, h1⟩)))
        go_roundw
        case rel => exact ⟨(lo + hi) / 2 + 1, hi, by go_num, rfl, by omega, hhn, hn, hb.trans (h1.mono hb.size)⟩
        case measure => simp [intOf]; omega
      · have hcg := cmp_ge (x := e.block) (y := b) (by omega)
        have hn := Lib.hid (HDN.out lo hi _ e hs.out he (by omega))
        generalize cmpI e.block b = C at *
        clear he
        obtain ⟨eb, ek, ev, em, ez, eo⟩ := e
        try simp only at hk hat hlb
        obtain ⟨c0, c1, c2, c3, c4, c5⟩ := hat
        clear hlb
        have hk := Lib.hid hk
        go_wp2_with (first
          | (go_at_call 35; ((with_reducible refine hk.out.mono ?_); rintro e9 w1 ⟨rfl, h1⟩)))
        go_roundw
        case rel => exact ⟨lo, (lo + hi) / 2, rfl, by go_num, by omega, by omega, hn, hb.trans (h1.mono hb.size)⟩
        case measure => simp [intOf]; omega
    · obtain rfl : lo = hi := by omega
      have hpl := Lib.hid (HPL.out lo hs.out hhn)
      by_cases hln : lo < len
      · obtain ⟨x, e, rfl, he, hat⟩ := HAT.out wr hb lo hln
        have hk := HK.out wr hb e
        have hso := HSO.out lo e hs.out hhn he
        have hlI : (lo : Int) < (len : Int) := by omega
        clear he
        by_cases heb : e.block = b
        · rw [heb, cmp_eq] at hk
          rw [decide_eq_true heb] at hso
          have hso := Lib.hid hso
          obtain ⟨eb, ek, ev, em, ez, eo⟩ := e
          try simp only at hk hat heb
          obtain ⟨c0, c1, c2, c3, c4, c5⟩ := hat
          clear heb
          have hk := Lib.hid hk
          go_wp2_with (first
            | (go_at_call 35; ((with_reducible refine hk.out.mono ?_); rintro e9 w1 ⟨rfl, h1⟩)))
          go_ret2
          exact ⟨by rw [hpl.out, hso.out]; rfl, hb.trans (h1.mono hb.size)⟩
        · have hne : (cmpI e.block b == 0) = false := by
            rcases Int.lt_trichotomy e.block b with h | h | h
            · rw [cmp_lt h]; decide
            · exact absurd h heb
            · rw [cmp_gt h]; decide
          rw [decide_eq_false heb] at hso
          have hso := Lib.hid hso
          generalize cmpI e.block b = C at *
          obtain ⟨eb, ek, ev, em, ez, eo⟩ := e
          try simp only at hk hat heb
          obtain ⟨c0, c1, c2, c3, c4, c5⟩ := hat
          clear heb
          have hk := Lib.hid hk
          go_wp2_with (first
            | (go_at_call 35; ((with_reducible refine hk.out.mono ?_); rintro e9 w1 ⟨rfl, h1⟩)))
          go_ret2
          exact ⟨by rw [hpl.out, hso.out]; rfl, hb.trans (h1.mono hb.size)⟩
      · obtain rfl : lo = len := by omega
        have hpa := Lib.hid (HPA.out hs.out)
        go_wp2_with fail
        go_ret2
        exact ⟨by rw [hpl.out, hpa.out]; rfl, hb⟩
/-- the function value that takes the key of an entry -/
abbrev keyF : Value := .func (.func 31) #[] #[]
set_option maxHeartbeats 1000000 in
theorem index_any (F : Nat → Prop) (L : List Ent) (b : Int) (a : Option Addr) (len cap : Nat) (w : World) (hl : EList w F a len cap L) (hA : Asc L) (hm : len ≤ 1000000) :
    Calls Try.prog 30 #[.slice a len cap, .int .i64 b, keyF] w (IndexPost w L b) := by
  have hB := (Below.refl w.heap.size w).alloc (Nat.le_refl _) keyRow
  have HS := Lib.hid (search_any _ L b a len cap w.heap.size (w.alloc keyRow) (hl.low.on (Same.low hB)) hA hm (heap_alloc_new w keyRow))
  clear hl
  unfold IndexPost at *
  go_enter Try.func30, Try.ntmps30
  go_wp2_with (first
    | (go_at_call 34; ((with_reducible refine HS.out.mono ?_); rintro e9 w1 ⟨rfl, h1⟩)))
  go_ret2
  exact ⟨rfl, hB.trans (h1.mono hB.size)⟩
end Go.Proofs.Ytbaclgedohpibaa.Ents
