/- Texts that belong together, part 19. -/
import Derived.Test.YthhggiifbldaeaaPack18
import Derived.ArgAppend

/- The walk of the program's Check. -/
namespace Go.Proofs.Ythhggiifbldaeaa
open Go.RowKit Plan ZnsMath

theorem configB_eq (D : Dev) : configB D = possibleB (D.zones.length : Int) D.size D.maxOpen D.maxActive := rfl
end Go.Proofs.Ythhggiifbldaeaa

/- The walks of the program's find and online. -/
namespace Go.Proofs.Ythhggiifbldaeaa
open Go.RowKit Plan ZnsMath

theorem heap_first2 (w : World) (a b : Obj) : ((w.alloc a).alloc b).heap[w.heap.size]? = some a := row_al (heap_alloc_new w a) b
end Go.Proofs.Ythhggiifbldaeaa

/- Lists of sectors that grow; slices.Clip on strings. -/
namespace Go.Proofs.Ythhggiifbldaeaa
open Go.RowKit Plan ZnsMath

theorem owned_some {w : World} {B n : Nat} {t : TypeId} {v : Value} {xs : List Value} (h : w.ownsRow B t 1 v n xs) (hn : 0 < n) : ∃ g c, v = .slice (some ⟨g, 0, none⟩) n c ∧ B ≤ g ∧ g < w.heap.size := by
  rcases h.2 with ⟨_, h0⟩ | ⟨g, cap, cur, rfl, hb, hg, _⟩
  · omega
  · exact ⟨g, cap, rfl, hb, (Array.getElem?_eq_some_iff.1 hg).1⟩
theorem strsIn_own {w : World} {F : Nat → Prop} {B g c n : Nat} {L : List ByteArray} (h : w.ownsRow B 9 1 (.slice (some ⟨g, 0, none⟩) n c) n (strs L)) (hs : ∀ s ∈ L, s.size ≤ maxLen) (hF : F g) : StrsIn w F (some ⟨g, 0, none⟩) n c L := by
  obtain ⟨-, a, cap, e, hi⟩ := owns_strs h hs
  cases e
  exact ⟨hi, fun _ x hx => by obtain rfl := Option.some.inj hx; exact hF⟩
theorem strs_small {w : World} {a : Option Addr} {n cap : Nat} {L : List ByteArray} (h : IsStrs w a n cap L) : ∀ s ∈ L, s.size ≤ maxLen := by
  intro s hs
  rcases h with ⟨_, _, _, rfl⟩ | ⟨x, _, _, _, _, h5⟩
  · cases hs
  · obtain ⟨i, hi, rfl⟩ := List.mem_iff_getElem.1 hs
    exact (h5 i _ (List.getElem?_eq_getElem hi)).2
theorem IsStrs.cap_le {w : World} {a : Option Addr} {n cap : Nat} {L : List ByteArray} (h : IsStrs w a n cap L) : n ≤ cap ∧ cap ≤ maxLen ∧ (a = none → n = 0 ∧ cap = 0) := by
  rcases h with ⟨rfl, rfl, rfl, rfl⟩ | ⟨x, rfl, h1, h2, _⟩
  · exact ⟨Nat.le_refl _, by unfold maxLen; omega, fun _ => ⟨rfl, rfl⟩⟩
  · exact ⟨h1, h2, fun e => by cases e⟩
theorem one_cell {w : World} {H : Nat} (hH : w.heap.size = H) (s : ByteArray) : ∀ j u, ([Value.string s] : List Value)[j]? = some u → (w.alloc (.cells #[.string s] 9)).cell? ((⟨H, 0, none⟩ : Addr).add j) = some u := by
  subst hH
  intro j u hu
  have hj := (List.getElem?_eq_some_iff.1 hu).1
  obtain rfl : j = 0 := by simp at hj; omega
  obtain rfl : Value.string s = u := by simpa using hu
  rw [Addr.add_lit]
  exact cell_of_row _ _ 0 _ _ _ (heap_alloc_new w _)
end Go.Proofs.Ythhggiifbldaeaa

/- Zoned devices as plain lists: how the numbers of open and of active zones change. -/
namespace Go.Proofs.Ythhggiifbldaeaa
open ZnsMath

theorem countO_cons (y : Zone) (Z : List Zone) : countO (y :: Z) = (if openB y.state = true then 1 else 0) + countO Z := by
  cases h : openB y.state <;> simp [countO, h]; omega
theorem countA_cons (y : Zone) (Z : List Zone) : countA (y :: Z) = (if activeB y.state = true then 1 else 0) + countA Z := by
  cases h : activeB y.state <;> simp [countA, h]; omega
theorem countO_set : ∀ (Z : List Zone) (k : Nat) (y z : Zone), Z[k]? = some y → countO (Z.set k z) + (if openB y.state = true then 1 else 0) = countO Z + (if openB z.state = true then 1 else 0)
  | [], k, y, z, h => by cases h
  | x :: Z, 0, y, z, h => by
    obtain rfl : x = y := by simpa using h
    rw [List.set_cons_zero, countO_cons, countO_cons]
    omega
  | x :: Z, k + 1, y, z, h => by
    have ih := countO_set Z k y z (by simpa using h)
    rw [List.set_cons_succ, countO_cons, countO_cons]
    omega
theorem countA_set : ∀ (Z : List Zone) (k : Nat) (y z : Zone), Z[k]? = some y → countA (Z.set k z) + (if activeB y.state = true then 1 else 0) = countA Z + (if activeB z.state = true then 1 else 0)
  | [], k, y, z, h => by cases h
  | x :: Z, 0, y, z, h => by
    obtain rfl : x = y := by simpa using h
    rw [List.set_cons_zero, countA_cons, countA_cons]
    omega
  | x :: Z, k + 1, y, z, h => by
    have ih := countA_set Z k y z (by simpa using h)
    rw [List.set_cons_succ, countA_cons, countA_cons]
    omega
theorem check_parts {D : Dev} (h : checkE D = 0) : configB D = true ∧ rightsB D.zones D.size = true ∧ (countO D.zones : Int) ≤ D.maxOpen ∧ (countA D.zones : Int) ≤ D.maxActive := by
  unfold checkE at h
  split at h
  · cases h
  · rename_i h1
    split at h
    · cases h
    · rename_i h2
      split at h
      · cases h
      · exact ⟨by simpa using h1, by simpa using h2, by omega, by omega⟩
theorem check_of {D : Dev} (h1 : configB D = true) (h2 : rightsB D.zones D.size = true) (h3 : (countO D.zones : Int) ≤ D.maxOpen) (h4 : (countA D.zones : Int) ≤ D.maxActive) : checkE D = 0 := by
  unfold checkE
  rw [if_neg (by simp [h1]), if_neg (by simp [h2]), if_neg (by omega)]
theorem config_parts {D : Dev} (h : configB D = true) : 1 ≤ D.zones.length ∧ D.zones.length ≤ 32 ∧ 3 ≤ D.size ∧ D.size ≤ 64 ∧ 1 ≤ D.maxOpen ∧ D.maxOpen ≤ D.maxActive ∧ D.maxActive ≤ D.zones.length := by
  unfold configB at h
  simp only [decide_eq_true_eq] at h
  omega
/-- closing a zone that an append opened -/
theorem closing_counts {Z : List Zone} {k : Nat} {y : Zone} (h : Z[k]? = some y) (hs : y.state = 1) : countO (Z.set k (shut y)) + 1 = countO Z ∧ countA (Z.set k (shut y)) ≤ countA Z := by
  have h1 := countO_set Z k y (shut y) h
  have h2 := countA_set Z k y (shut y) h
  have a1 : openB y.state = true := by rw [hs]; rfl
  have a2 : activeB y.state = true := by rw [hs]; rfl
  rw [a1] at h1
  rw [a2] at h2
  have a3 : openB (shut y).state = false := by
    unfold shut
    by_cases h : y.sectors.length = 0 <;> simp [h, openB]
  rw [a3] at h1
  simp only [if_true] at h1 h2
  refine ⟨by simpa using h1, ?_⟩
  split at h2 <;> omega
end Go.Proofs.Ythhggiifbldaeaa

/- The example of the chapter, as plain lists. -/
namespace Go.Proofs.Ythhggiifbldaeaa
open ZnsMath

def exD0 : Dev := ⟨3, 1, 2, [empty, empty]⟩
def exD1 (S : ByteArray) : Dev := ⟨3, 1, 2, [⟨1, 0, [S]⟩, empty]⟩
def exD2 (S : ByteArray) : Dev := ⟨3, 1, 2, [⟨3, 0, [S]⟩, ⟨1, 0, [S]⟩]⟩
theorem ex_new : newE 2 3 1 2 = 0 ∧ newR 2 3 1 2 = exD0 := by
  have h : newE 2 3 1 2 = 0 := by decide
  exact ⟨h, by unfold newR; rw [if_pos h]; rfl⟩
theorem ex_one {S : ByteArray} (h : S.size = 40) : appendE exD0 0 S = 0 ∧ appendO exD0 0 S = 0 ∧ appendR exD0 0 S = exD1 S := by
  have hz : zoneE exD0 0 = 0 := by decide
  have hr : roomE exD0 0 = 0 := by decide
  have he : appendE exD0 0 S = 0 := by
    unfold appendE
    rw [if_neg (by simp [hz]), if_neg (by simp [h]), if_neg (by decide), if_neg (by decide), if_neg (by decide)]
    exact hr
  have hd : ready exD0 0 = exD0 := by unfold ready; rw [if_neg (by decide)]; rfl
  refine ⟨he, ?_, ?_⟩
  · unfold appendO; rw [if_pos he, hd]; rfl
  · unfold appendR; rw [if_pos he, hd]; rfl
theorem ex_check1 {S : ByteArray} (h : S.size = 40) : checkE (exD1 S) = 0 := by
  refine check_of rfl ?_ (show ((1 : Nat) : Int) ≤ 1 by decide) (show ((1 : Nat) : Int) ≤ 2 by decide)
  simp [exD1, rightsB, rightB, sizesB, h, empty]
theorem ex_check2 {S : ByteArray} (h : S.size = 40) : checkE (exD2 S) = 0 := by
  refine check_of rfl ?_ (show ((1 : Nat) : Int) ≤ 1 by decide) (show ((2 : Nat) : Int) ≤ 2 by decide)
  simp [exD2, rightsB, rightB, sizesB, h]
theorem ex_two {S : ByteArray} (h : S.size = 40) : appendE (exD1 S) 1 S = 0 ∧ appendO (exD1 S) 1 S = 0 ∧ appendR (exD1 S) 1 S = exD2 S := by
  have hz : zoneE (exD1 S) 1 = 0 := by unfold zoneE; rw [ex_check1 h]; rfl
  have hr : roomE (exD1 S) 1 = 0 := rfl
  have he : appendE (exD1 S) 1 S = 0 := by
    unfold appendE
    rw [if_neg (by simp [hz]), if_neg (by simp [h])]
    exact hr
  refine ⟨he, ?_, ?_⟩
  · unfold appendO; rw [if_pos he]; rfl
  · unfold appendR; rw [if_pos he]; rfl
theorem ex_read {S : ByteArray} (h : S.size = 40) : readE (exD2 S) 0 0 = 0 ∧ readR (exD2 S) 0 0 = S := by
  have hb : beginE (exD2 S) 0 = 0 := by
    unfold beginE zoneE
    rw [ex_check2 h]
    rfl
  have he : readE (exD2 S) 0 0 = 0 := by
    unfold readE
    rw [hb]
    rfl
  exact ⟨he, by unfold readR; rw [if_pos he]; rfl⟩
end Go.Proofs.Ythhggiifbldaeaa

/- The walks of the program's small functions of victims. -/
namespace Go.Proofs.Ythhggiifbldaeaa.Ents
open Go.RowKit Plan ZnsMath EntMath CntMath EpoMath LayMath VicMath
set_option maxHeartbeats 1000000 in
theorem vicRecords_any (cz cs cb cq cd ch : Int) (h1 : 3 ≤ cs) (h2 : cs ≤ 64) (w : World) :
    Calls Try.prog 35 #[confV cz cs cb cq cd ch] w fun r w' => r = .returned (.int .i64 (cs - 1)) ∧ Below w.heap.size w w' := by
  have hA := (Below.refl w.heap.size w).alloc (Nat.le_refl _) (confRow cz cs cb cq cd ch)
  have hr := heap_alloc_new w (confRow cz cs cb cq cd ch)
  have hw : wrap64 (cs - 1) = cs - 1 := by unfold wrap64; omega
  unfold confV
  clear h1 h2
  go_enter Try.func35, Try.ntmps35
  have c1 : (w.alloc (confRow cz cs cb cq cd ch)).cell? ⟨w.heap.size, 1, none⟩ = some (.int .i64 cs) := cell_of_row _ _ 1 _ _ _ hr
  generalize hw0 : w.alloc (confRow cz cs cb cq cd ch) = w0 at *
  go_wp2_with fail
  go_ret
  exact ⟨e_i hw, hA⟩
abbrev vpoRow (a : Option Addr) (n c : Nat) (h k : Int) : Obj := .cells #[.slice a n c, .int .i64 h, .int .i64 k] 41
set_option maxHeartbeats 1000000 in
theorem vicLane_any (a : Option Addr) (n c : Nat) (h k z : Int) (w : World) :
    Calls Try.prog 33 #[.agg #[.slice a n c, .int .i64 h, .int .i64 k], .int .i64 z] w fun r w' => r = .returned (.bool (decide (z = h) || decide (z = k))) ∧ Below w.heap.size w w' := by
  have hA := (Below.refl w.heap.size w).alloc (Nat.le_refl _) (vpoRow a n c h k)
  have hr := heap_alloc_new w (vpoRow a n c h k)
  by_cases h1 : z = h
  · rw [decide_eq_true h1, Bool.true_or]
    have d1 : (z == h) = true := by simpa using h1
    clear h1
    go_enter Try.func33, Try.ntmps33
    obtain ⟨c0, c1, c2⟩ := three_row hr
    generalize hw0 : w.alloc (vpoRow a n c h k) = w0 at *
    go_wp2_with fail
    go_ret
    exact ⟨rfl, hA⟩
  · rw [decide_eq_false h1, Bool.false_or]
    have d1 : (z == h) = false := by simpa using h1
    obtain ⟨q, d2⟩ : ∃ q, (z == k) = q := ⟨_, rfl⟩
    rw [show decide (z = k) = q from d2]
    clear h1
    go_enter Try.func33, Try.ntmps33
    obtain ⟨c0, c1, c2⟩ := three_row hr
    generalize hw0 : w.alloc (vpoRow a n c h k) = w0 at *
    go_wp2_with fail
    go_ret
    exact ⟨rfl, hA⟩
set_option maxHeartbeats 1000000 in
theorem vicRetF_any (r : Ret) (z : Int) (p : Nat) (w : World) (h : w.heap[p]? = some (.cells #[.int .i64 z] 3 (0, 0))) :
    Calls Try.prog 46 #[retV r, .pointer (some ⟨p, 0, none⟩)] w fun e w' => e = .returned (.bool (decide (r.zone = z))) ∧ Below w.heap.size w w' := by
  obtain ⟨rz, re⟩ := r
  show Calls Try.prog 46 #[.agg #[.int .i64 rz, .int .i64 re], .pointer (some ⟨p, 0, none⟩)] w fun e w' => e = .returned (.bool (decide (rz = z))) ∧ Below w.heap.size w w'
  have hA := (Below.refl w.heap.size w).alloc (Nat.le_refl _) (retRow rz re)
  have hk := one_cell (e_al h (retRow rz re))
  have hr := heap_alloc_new w (retRow rz re)
  have c0 : (w.alloc (retRow rz re)).cell? ⟨w.heap.size, 0, none⟩ = some (.int .i64 rz) := cell_of_row _ _ 0 _ _ _ hr
  obtain ⟨q, d2⟩ : ∃ q, (rz == z) = q := ⟨_, rfl⟩
  rw [show decide (rz = z) = q from d2]
  go_enter Try.func46, Try.ntmps46
  generalize hw0 : w.alloc (retRow rz re) = w0 at *
  go_wp2_with fail
  go_ret
  exact ⟨rfl, hA⟩
theorem isRet_next {L : List Ret} {z : Int} {j : Nat} {r : Ret} (hr : L[j]? = some r) (h : isRet (L.take j) z = false) (hz : r.zone ≠ z) : isRet (L.take (j + 1)) z = false := by
  rw [List.take_add_one, hr]
  unfold isRet at *
  simp [List.any_append, h, hz]
theorem isRet_here {L : List Ret} {z : Int} {j : Nat} {r : Ret} (hr : L[j]? = some r) (hz : r.zone = z) : isRet L z = true := by
  unfold isRet
  rw [List.any_eq_true]
  exact ⟨r, List.mem_of_getElem? hr, by simpa using hz⟩
def IdxPost (w : World) (L : List Ret) (z : Int) (r : Ending) (w' : World) : Prop := ∃ i : Int, r = .returned (.int .i64 i) ∧ (decide (0 ≤ i)) = isRet L z ∧ Below w.heap.size w w'
set_option maxHeartbeats 2000000 in
set_option maxRecDepth 20000 in
theorem vicIndex_any (F : Nat → Prop) (L : List Ret) (z : Int) (a : Option Addr) (m c p : Nat) (w : World) (hl : RList w F a m c L) (hp : w.heap[p]? = some (.cells #[.int .i64 z] 3 (0, 0))) :
    Calls Try.prog 57 #[.slice a m c, .func (.func 46) #[] #[.pointer (some ⟨p, 0, none⟩)]] w (IdxPost w L z) := by
  have hlen := hl.length
  have hcp := hl.cap
  unfold maxLen at hcp
  have HAT := Lib.hid (fun W (h : Below w.heap.size w W) i (hi : i < m) => ret_at (hl.same h) i hi)
  have HK := Lib.hid (fun W (h : Below w.heap.size w W) r => vicRetF_any r z p W (e_on h hp (e_lt hp)))
  have H0 := Lib.hid (show isRet (L.take 0) z = false from by simp [isRet])
  have HALL := Lib.hid (show isRet (L.take m) z = isRet L z from by rw [List.take_of_length_le (by omega)])
  unfold IdxPost
  clear hl hp
  go_enter Try.func57, Try.ntmps57
  go_wp2
  go_loopw [8] (fun x wr => ∃ j : Nat, x = .int .i64 (j : Int) ∧ j ≤ m ∧ RowKit.Hid (isRet (L.take j) z = false) ∧ Below w.heap.size w wr) (fun x _ => m - (intOf x).toNat)
  case atStart => exact ⟨0, rfl, by omega, H0, Below.refl _ _⟩
  case round =>
    clear H0
    obtain ⟨j, rfl, hj, hn, hb⟩ := hrel
    by_cases hlt : j < m
    · obtain ⟨x, r, rfl, hz, hat⟩ := HAT.out wr hb j hlt
      have hk := HK.out wr hb r
      have hjI : (j : Int) < (m : Int) := by omega
      by_cases hq : r.zone = z
      · have HH := Lib.hid (isRet_here hz hq)
        rw [decide_eq_true hq] at hk
        clear hz hq
        obtain ⟨rz, re⟩ := r
        obtain ⟨c0, c1⟩ := hat
        try simp only at hk c0 c1
        have hk := Lib.hid hk
        go_wp2_with (first
          | (go_at_call 46; ((with_reducible refine hk.out.mono ?_); rintro e9 w1 ⟨rfl, h1⟩)))
        go_ret
        exact ⟨(j : Int), rfl, by rw [HH.out, decide_eq_true (show (0 : Int) ≤ (j : Int) by omega)], hb.trans (h1.mono hb.size)⟩
      · have HN := Lib.hid (isRet_next hz hn.out hq)
        rw [decide_eq_false hq] at hk
        clear hz hq
        obtain ⟨rz, re⟩ := r
        obtain ⟨c0, c1⟩ := hat
        try simp only at hk c0 c1
        have hk := Lib.hid hk
        go_wp2_with (first
          | (go_at_call 46; ((with_reducible refine hk.out.mono ?_); rintro e9 w1 ⟨rfl, h1⟩)))
        go_roundw
        case rel => exact ⟨j + 1, by go_num, by omega, HN, hb.trans (h1.mono hb.size)⟩
        case measure => simp [intOf]; omega
    · obtain rfl : j = m := by omega
      have hjI : ¬ (j : Int) < (j : Int) := by omega
      go_wp2_with fail
      go_ret
      exact ⟨-1, rfl, by rw [← HALL.out, hn.out]; rfl, hb⟩
set_option maxHeartbeats 2000000 in
set_option maxRecDepth 20000 in
theorem vicContains_any (F : Nat → Prop) (L : List Ret) (z : Int) (a : Option Addr) (m c p : Nat) (w : World) (hl : RList w F a m c L) (hp : w.heap[p]? = some (.cells #[.int .i64 z] 3 (0, 0))) :
    Calls Try.prog 45 #[.slice a m c, .func (.func 46) #[] #[.pointer (some ⟨p, 0, none⟩)]] w fun r w' => r = .returned (.bool (isRet L z)) ∧ Below w.heap.size w w' := by
  have HI := Lib.hid (vicIndex_any F L z a m c p w hl hp)
  unfold IdxPost at HI
  clear hl hp
  go_enter Try.func45, Try.ntmps45
  go_wp2_with (first
    | (go_at_call 57; ((with_reducible refine HI.out.mono ?_); rintro e9 w1 ⟨i, rfl, hi, h1⟩)))
  go_ret
  exact ⟨by first | rfl | exact e_b hi, h1⟩
set_option maxHeartbeats 2000000 in
set_option maxRecDepth 20000 in
theorem vicRetired_any (F : Nat → Prop) (E : Epo) (z : Int) (g : Int) (a b : Option Addr) (n c m d : Nat) (w : World) (hl : PList w F g a n c b m d E) :
    Calls Try.prog 34 #[epoV g a n c b m d, .int .i64 z] w fun r w' => r = .returned (.bool (isRet E.zones z)) ∧ Below w.heap.size w w' := by
  have hA := ((Below.refl w.heap.size w).alloc (Nat.le_refl _) (epoRow g a n c b m d)).alloc (by simp) (.cells #[.int .i64 z] 3 (0, 0))
  have hr := e_al (heap_alloc_new w (epoRow g a n c b m d)) (.cells #[.int .i64 z] 3 (0, 0))
  have hz : ((w.alloc (epoRow g a n c b m d)).alloc (.cells #[.int .i64 z] 3 (0, 0))).heap[w.heap.size + 1]? = some (.cells #[.int .i64 z] 3 (0, 0)) := (by have := heap_alloc_new (w.alloc (epoRow g a n c b m d)) (.cells #[.int .i64 z] 3 (0, 0)); rwa [World.size_alloc] at this)
  have HC := Lib.hid (fun W (q : Below w.heap.size w W) (hp : W.heap[w.heap.size + 1]? = some (.cells #[.int .i64 z] 3 (0, 0))) => vicContains_any _ E.zones z b m d (w.heap.size + 1) W (hl.same q).z hp)
  clear hl
  go_enter Try.func34, Try.ntmps34
  obtain ⟨c0, c1, c2⟩ := three_row hr
  generalize hw0 : (w.alloc (epoRow g a n c b m d)).alloc (.cells #[.int .i64 z] 3 (0, 0)) = w0 at *
  go_wp2_with (first
    | (go_at_call 45; ((with_reducible refine (HC.out _ hA hz).mono ?_); rintro e9 w1 ⟨rfl, h1⟩)))
  go_ret
  exact ⟨rfl, hA.trans (h1.mono hA.size)⟩
set_option maxHeartbeats 2000000 in
set_option maxRecDepth 20000 in
theorem vicIndexOk_any (S : Sv) (z : Int) (w : World) :
    Calls Try.prog 32 #[stV S, .int .i64 z] w fun r w' => r = .returned (.bool (decide (z < (S.zN : Int)) && decide (z < (S.lN : Int)) && decide (z < (S.pN : Int)))) ∧ Below w.heap.size w w' := by
  have K := SBox.start w S
  obtain ⟨q, d2⟩ : ∃ q, (decide (z < (S.zN : Int)) && decide (z < (S.lN : Int)) && decide (z < (S.pN : Int))) = q := ⟨_, rfl⟩
  have hq : decide (z < min (min (S.zN : Int) (S.lN : Int)) (S.pN : Int)) = q := by
    rw [← d2, Bool.eq_iff_iff]
    simp only [decide_eq_true_eq, Bool.and_eq_true]
    omega
  rw [d2]
  clear d2
  go_enter Try.func32, Try.ntmps32
  generalize hw0 : w.alloc (stRow S) = w0 at *
  obtain ⟨v9, v11, v12⟩ : w0.cell? ⟨w.heap.size, 9, none⟩ = some (.slice S.zA S.zN S.zC) ∧ w0.cell? ⟨w.heap.size, 11, none⟩ = some (.slice S.lA S.lN S.lC) ∧ w0.cell? ⟨w.heap.size, 12, none⟩ = some (.slice S.pA S.pN S.pC) := ⟨st_cell K.hs rfl, st_cell K.hs rfl, st_cell K.hs rfl⟩
  have HQ := Lib.hid hq
  clear hq
  go_wp2_with fail
  all_goals go_ret
  all_goals exact ⟨e_b (by rw [← HQ.out, Bool.eq_iff_iff]; simp only [decide_eq_true_eq]; omega), K.hb⟩
end Go.Proofs.Ythhggiifbldaeaa.Ents

/- The walk of the program's Can. -/
namespace Go.Proofs.Ythhggiifbldaeaa.Ents
open Go.RowKit Plan ZnsMath EntMath CntMath EpoMath LayMath VicMath
theorem vpo_info : (Try.prog.info? 41).map (·.size) = some 3 := by kernel_rfl
theorem lane_bools (q1 q2 q3 q4 q5 q6 : Bool) : (q1 && q2 && !q3 && !q4 && !q5 && q6) = (q1 && q2 && !(q3 || q4) && !q5 && q6) := by cases q1 <;> cases q2 <;> cases q3 <;> cases q4 <;> rfl
set_option maxHeartbeats 16000000 in
set_option maxRecDepth 40000 in
theorem vicCan_any (F : Nat → Prop) (S : Sv) (Z : List Zone) (C : Cnt) (E : Epo) (z : Int) (w : World) (hl : VList w F S Z C E) :
    Calls Try.prog 12 #[stV S, .int .i64 z] w fun r w' => r = .returned (.bool (canS S Z C E z)) ∧ Below w.heap.size w w' := by
  have K := SBox.start w S
  have HD := Lib.hid (fun W (_ : Below w.heap.size w W) => isData_any S.cz S.cs S.cb S.cq S.cd S.ch z W)
  have HI := Lib.hid (fun W (_ : Below w.heap.size w W) => vicIndexOk_any S z W)
  have HLN := Lib.hid (fun W (_ : Below w.heap.size w W) => vicLane_any S.fA S.fN S.fC S.h S.k z W)
  have hB := @data_bounds S.cz S.cs S.cb S.cq S.cd S.ch z
  have hzl := hl.zlen
  have hll := hl.c.l.length
  have hpl := hl.c.p.length
  unfold canS
  unfold confV at *
  generalize hDZ : isN S.cz S.cs S.cb S.cq S.cd S.ch = D at *
  cases hd : D z
  · rw [can_no (.inl hd)]
    rw [hd] at HD
    clear hl hB
    go_enter Try.func12, Try.ntmps12
    generalize hw0 : w.alloc (stRow S) = w0 at *
    go_wp2_with fail
    have hF := fun W (k : SBox w W S) => k.hs
    refine Plan.start (fun W => W.heap[w.heap.size]? = some (stRow S)) [(0, true), (1, true), (2, true), (3, false), (4, true), (5, true), (6, true), (7, false), (8, true), (9, true), (10, true), (11, true), (12, true), (13, true), (14, true), (15, true), (16, true), (17, true), (18, true), (19, true), (20, true), (21, true), (22, true), (23, true), (24, true), (25, true), (26, true), (27, true), (28, true), (29, true), (30, true), (31, true), (32, false), (33, true), (34, true), (35, true), (36, true), (37, true), (38, true), (39, false), (40, true), (41, true), (42, true), (43, true), (44, true), (45, true), (46, true), (47, true), (48, true), (49, true), (50, true), (51, false), (52, true), (53, true), (54, true)] (by kernel_rfl) (by kernel_rfl) (by kernel_rfl) (by kernel_rfl) (hF _ K.drew) ?_
    simp only [List.map_cons, List.map_nil, List.getElem?_toArray, List.getElem?_cons_zero, List.getElem?_cons_succ]
    repeat (first | (refine Plan.take ?_ (by rfl) ?_ ?_; rotate_left; (· rintro w9 u0; go_simp; (try rw [if_neg (by omega)]); all_goals (with_reducible rfl)); simp only [Act.put, List.setIfInBounds_toArray, List.set_cons_zero, List.set_cons_succ]) | (refine Plan.pass (by rfl) ?_; simp only [Act.put, List.setIfInBounds_toArray, List.set_cons_zero, List.set_cons_succ]))
    have K2 := K.drew
    refine Plan.take_mid 26 (.tmp 5) w.heap.size 0 _ [.int .i64 S.cz, .int .i64 S.cs, .int .i64 S.cb, .int .i64 S.cq, .int .i64 S.cd, .int .i64 S.ch] (by rfl) rfl (by rfl) (fun w9 h9 => h9) rfl Try.underlying26 rfl conf_info ?_
    simp only [Act.put, List.setIfInBounds_toArray, List.set_cons_zero, List.set_cons_succ]
    repeat (first | (refine Plan.take ?_ (by rfl) ?_ ?_; rotate_left; (· rintro w9 u0; go_simp; (try rw [if_neg (by omega)]); all_goals (with_reducible rfl)); simp only [Act.put, List.setIfInBounds_toArray, List.set_cons_zero, List.set_cons_succ]) | (refine Plan.pass (by rfl) ?_; simp only [Act.put, List.setIfInBounds_toArray, List.set_cons_zero, List.set_cons_succ]))
    refine Plan.call (by rfl) 31 _ ?_ (HD.out _ K2.hb) ?_
    · go_simp
    rintro r9 w2 ⟨rfl, h2⟩
    have K3 := K2.on h2
    clear K2 h2
    have K2 := K3
    clear K3
    refine ⟨_, rfl, hF _ K2, ?_⟩
    simp only [Act.put, List.setIfInBounds_toArray, List.set_cons_zero, List.set_cons_succ]
    repeat (first | (refine Plan.take ?_ (by rfl) ?_ ?_; rotate_left; (· rintro w9 u0; go_simp; (try rw [if_neg (by omega)]); all_goals (with_reducible rfl)); simp only [Act.put, List.setIfInBounds_toArray, List.set_cons_zero, List.set_cons_succ]) | (refine Plan.pass (by rfl) ?_; simp only [Act.put, List.setIfInBounds_toArray, List.set_cons_zero, List.set_cons_succ]))
    refine Plan.pass' (by rfl) (hF _ K2) ?_
    simp only [Act.put, List.setIfInBounds_toArray, List.set_cons_zero, List.set_cons_succ]
    repeat (first | (refine Plan.take ?_ (by rfl) ?_ ?_; rotate_left; (· rintro w9 u0; go_simp; (try rw [if_neg (by omega)]); all_goals (with_reducible rfl)); simp only [Act.put, List.setIfInBounds_toArray, List.set_cons_zero, List.set_cons_succ]) | (refine Plan.pass (by rfl) ?_; simp only [Act.put, List.setIfInBounds_toArray, List.set_cons_zero, List.set_cons_succ]))
    refine Plan.pass' (by rfl) (hF _ K2) ?_
    simp only [Act.put, List.setIfInBounds_toArray, List.set_cons_zero, List.set_cons_succ]
    repeat (first | (refine Plan.take ?_ (by rfl) ?_ ?_; rotate_left; (· rintro w9 u0; go_simp; (try rw [if_neg (by omega)]); all_goals (with_reducible rfl)); simp only [Act.put, List.setIfInBounds_toArray, List.set_cons_zero, List.set_cons_succ]) | (refine Plan.pass (by rfl) ?_; simp only [Act.put, List.setIfInBounds_toArray, List.set_cons_zero, List.set_cons_succ]))
    refine Plan.pass' (by rfl) (hF _ K2) ?_
    simp only [Act.put, List.setIfInBounds_toArray, List.set_cons_zero, List.set_cons_succ]
    repeat (first | (refine Plan.take ?_ (by rfl) ?_ ?_; rotate_left; (· rintro w9 u0; go_simp; (try rw [if_neg (by omega)]); all_goals (with_reducible rfl)); simp only [Act.put, List.setIfInBounds_toArray, List.set_cons_zero, List.set_cons_succ]) | (refine Plan.pass (by rfl) ?_; simp only [Act.put, List.setIfInBounds_toArray, List.set_cons_zero, List.set_cons_succ]))
    refine Plan.pass' (by rfl) (hF _ K2) ?_
    simp only [Act.put, List.setIfInBounds_toArray, List.set_cons_zero, List.set_cons_succ]
    repeat (first | (refine Plan.take ?_ (by rfl) ?_ ?_; rotate_left; (· rintro w9 u0; go_simp; (try rw [if_neg (by omega)]); all_goals (with_reducible rfl)); simp only [Act.put, List.setIfInBounds_toArray, List.set_cons_zero, List.set_cons_succ]) | (refine Plan.pass (by rfl) ?_; simp only [Act.put, List.setIfInBounds_toArray, List.set_cons_zero, List.set_cons_succ]))
    refine Plan.ends ?_
    clear hF
    go_wp2_with fail
    go_ret
    exact ⟨rfl, K2.hb⟩
  · obtain ⟨b0, b1, b2, b3, b4⟩ := hB hd
    have HRC := Lib.hid (fun W (_ : Below w.heap.size w W) => vicRecords_any S.cz S.cs S.cb S.cq S.cd S.ch b3 b4 W)
    unfold confV at HRC
    rw [hd] at HD
    obtain ⟨i, rfl⟩ : ∃ i : Nat, z = (i : Int) := ⟨z.toNat, by omega⟩
    clear hB
    cases hix : (decide ((i : Int) < (S.zN : Int)) && decide ((i : Int) < (S.lN : Int)) && decide ((i : Int) < (S.pN : Int)))
    · rw [hix] at HI
      rw [can_no (by
        simp only [Bool.and_eq_false_iff, decide_eq_false_iff_not] at hix
        rcases hix with (hix | hix) | hix
        · exact .inr (.inl (by omega))
        · exact .inr (.inr (.inl (by omega)))
        · exact .inr (.inr (.inr (by omega))))]
      clear hl hix HRC
      go_enter Try.func12, Try.ntmps12
      generalize hw0 : w.alloc (stRow S) = w0 at *
      go_wp2_with fail
      have hF := fun W (k : SBox w W S) => k.hs
      refine Plan.start (fun W => W.heap[w.heap.size]? = some (stRow S)) [(0, true), (1, true), (2, true), (3, false), (4, true), (5, true), (6, true), (7, false), (8, true), (9, true), (10, true), (11, true), (12, true), (13, true), (14, true), (15, true), (16, true), (17, true), (18, true), (19, true), (20, true), (21, true), (22, true), (23, true), (24, true), (25, true), (26, true), (27, true), (28, true), (29, true), (30, true), (31, true), (32, false), (33, true), (34, true), (35, true), (36, true), (37, true), (38, true), (39, false), (40, true), (41, true), (42, true), (43, true), (44, true), (45, true), (46, true), (47, true), (48, true), (49, true), (50, true), (51, false), (52, true), (53, true), (54, true)] (by kernel_rfl) (by kernel_rfl) (by kernel_rfl) (by kernel_rfl) (hF _ K.drew) ?_
      simp only [List.map_cons, List.map_nil, List.getElem?_toArray, List.getElem?_cons_zero, List.getElem?_cons_succ]
      repeat (first | (refine Plan.take ?_ (by rfl) ?_ ?_; rotate_left; (· rintro w9 u0; go_simp; (try rw [if_neg (by omega)]); all_goals (with_reducible rfl)); simp only [Act.put, List.setIfInBounds_toArray, List.set_cons_zero, List.set_cons_succ]) | (refine Plan.pass (by rfl) ?_; simp only [Act.put, List.setIfInBounds_toArray, List.set_cons_zero, List.set_cons_succ]))
      have K2 := K.drew
      refine Plan.take_mid 26 (.tmp 5) w.heap.size 0 _ [.int .i64 S.cz, .int .i64 S.cs, .int .i64 S.cb, .int .i64 S.cq, .int .i64 S.cd, .int .i64 S.ch] (by rfl) rfl (by rfl) (fun w9 h9 => h9) rfl Try.underlying26 rfl conf_info ?_
      simp only [Act.put, List.setIfInBounds_toArray, List.set_cons_zero, List.set_cons_succ]
      repeat (first | (refine Plan.take ?_ (by rfl) ?_ ?_; rotate_left; (· rintro w9 u0; go_simp; (try rw [if_neg (by omega)]); all_goals (with_reducible rfl)); simp only [Act.put, List.setIfInBounds_toArray, List.set_cons_zero, List.set_cons_succ]) | (refine Plan.pass (by rfl) ?_; simp only [Act.put, List.setIfInBounds_toArray, List.set_cons_zero, List.set_cons_succ]))
      refine Plan.call (by rfl) 31 _ ?_ (HD.out _ K2.hb) ?_
      · go_simp
      rintro r9 w2 ⟨rfl, h2⟩
      have K3 := K2.on h2
      clear K2 h2
      have K2 := K3
      clear K3
      refine ⟨_, rfl, hF _ K2, ?_⟩
      simp only [Act.put, List.setIfInBounds_toArray, List.set_cons_zero, List.set_cons_succ]
      repeat (first | (refine Plan.take ?_ (by rfl) ?_ ?_; rotate_left; (· rintro w9 u0; go_simp; (try rw [if_neg (by omega)]); all_goals (with_reducible rfl)); simp only [Act.put, List.setIfInBounds_toArray, List.set_cons_zero, List.set_cons_succ]) | (refine Plan.pass (by rfl) ?_; simp only [Act.put, List.setIfInBounds_toArray, List.set_cons_zero, List.set_cons_succ]))
      refine Plan.take_load 58 (.tmp 2) w.heap.size _ (by rfl) rfl (by rfl) (fun w9 h9 => h9) Try.underlying58 rfl st_info ?_
      simp only [Act.put, List.setIfInBounds_toArray, List.set_cons_zero, List.set_cons_succ]
      repeat (first | (refine Plan.take ?_ (by rfl) ?_ ?_; rotate_left; (· rintro w9 u0; go_simp; (try rw [if_neg (by omega)]); all_goals (with_reducible rfl)); simp only [Act.put, List.setIfInBounds_toArray, List.set_cons_zero, List.set_cons_succ]) | (refine Plan.pass (by rfl) ?_; simp only [Act.put, List.setIfInBounds_toArray, List.set_cons_zero, List.set_cons_succ]))
      refine Plan.call (by rfl) 32 _ ?_ (HI.out _ K2.hb) ?_
      · go_simp
      rintro r9 w2 ⟨rfl, h2⟩
      have K3 := K2.on h2
      clear K2 h2
      have K2 := K3
      clear K3
      refine ⟨_, rfl, hF _ K2, ?_⟩
      simp only [Act.put, List.setIfInBounds_toArray, List.set_cons_zero, List.set_cons_succ]
      repeat (first | (refine Plan.take ?_ (by rfl) ?_ ?_; rotate_left; (· rintro w9 u0; go_simp; (try rw [if_neg (by omega)]); all_goals (with_reducible rfl)); simp only [Act.put, List.setIfInBounds_toArray, List.set_cons_zero, List.set_cons_succ]) | (refine Plan.pass (by rfl) ?_; simp only [Act.put, List.setIfInBounds_toArray, List.set_cons_zero, List.set_cons_succ]))
      refine Plan.pass' (by rfl) (hF _ K2) ?_
      simp only [Act.put, List.setIfInBounds_toArray, List.set_cons_zero, List.set_cons_succ]
      repeat (first | (refine Plan.take ?_ (by rfl) ?_ ?_; rotate_left; (· rintro w9 u0; go_simp; (try rw [if_neg (by omega)]); all_goals (with_reducible rfl)); simp only [Act.put, List.setIfInBounds_toArray, List.set_cons_zero, List.set_cons_succ]) | (refine Plan.pass (by rfl) ?_; simp only [Act.put, List.setIfInBounds_toArray, List.set_cons_zero, List.set_cons_succ]))
      refine Plan.pass' (by rfl) (hF _ K2) ?_
      simp only [Act.put, List.setIfInBounds_toArray, List.set_cons_zero, List.set_cons_succ]
      repeat (first | (refine Plan.take ?_ (by rfl) ?_ ?_; rotate_left; (· rintro w9 u0; go_simp; (try rw [if_neg (by omega)]); all_goals (with_reducible rfl)); simp only [Act.put, List.setIfInBounds_toArray, List.set_cons_zero, List.set_cons_succ]) | (refine Plan.pass (by rfl) ?_; simp only [Act.put, List.setIfInBounds_toArray, List.set_cons_zero, List.set_cons_succ]))
      refine Plan.pass' (by rfl) (hF _ K2) ?_
      simp only [Act.put, List.setIfInBounds_toArray, List.set_cons_zero, List.set_cons_succ]
      repeat (first | (refine Plan.take ?_ (by rfl) ?_ ?_; rotate_left; (· rintro w9 u0; go_simp; (try rw [if_neg (by omega)]); all_goals (with_reducible rfl)); simp only [Act.put, List.setIfInBounds_toArray, List.set_cons_zero, List.set_cons_succ]) | (refine Plan.pass (by rfl) ?_; simp only [Act.put, List.setIfInBounds_toArray, List.set_cons_zero, List.set_cons_succ]))
      refine Plan.ends ?_
      clear hF
      go_wp2_with fail
      go_ret
      exact ⟨rfl, K2.hb⟩
    · rw [hix] at HI
      simp only [Bool.and_eq_true, decide_eq_true_eq] at hix
      obtain ⟨⟨i1, i2⟩, i3⟩ := hix
      obtain ⟨x, y, sa, sl, sc, hxA, hy, hcy, _, _⟩ := hl.zone (i := i) (by omega)
      obtain ⟨xl, l, hlA, hlz, hcl⟩ := hl.c.l.at' i (by omega)
      obtain ⟨xp, p, hpA, hpz, hcp⟩ := hl.c.p.at' i (by omega)
      rw [can_at hd hy hlz hpz]
      have HZ := Lib.hid (fun W (q : Below w.heap.size w W) => (show W.cell? (x.add (i * 3)) = some (.int .i64 y.state) from (q.cell (World.block_lt_of_cell? w _ hcy)).trans hcy))
      have HL := Lib.hid (fun W (q : Below w.heap.size w W) => (show W.cell? (xl.add i) = some (.int .i64 l) from (q.cell (World.block_lt_of_cell? w _ hcl)).trans hcl))
      have HP := Lib.hid (fun W (q : Below w.heap.size w W) => (show W.cell? (xp.add i) = some (.int .i64 p) from (q.cell (World.block_lt_of_cell? w _ hcp)).trans hcp))
      have HRT := Lib.hid (fun W (q : Below w.heap.size w W) => vicRetired_any _ E (i : Int) S.eg S.iA S.rA S.iN S.iC S.rN S.rC W (hl.e.same q))
      unfold fitV
      obtain ⟨q1, o1⟩ : ∃ q, (y.state == (4 : Int)) = q := ⟨_, rfl⟩
      obtain ⟨q2, o2⟩ : ∃ q, (p == (0 : Int)) = q := ⟨_, rfl⟩
      obtain ⟨q6, o6⟩ : ∃ q, decide (l < S.cs - 1) = q := ⟨_, rfl⟩
      rw [show decide (y.state = 4) = q1 from o1, show decide (p = 0) = q2 from o2, o6, lane_bools]
      generalize (decide ((i : Int) = S.h) || decide ((i : Int) = S.k)) = qL at *
      generalize hq5 : isRet E.zones (i : Int) = q5 at *
      replace hxA := Lib.hid hxA
      replace hlA := Lib.hid hlA
      replace hpA := Lib.hid hpA
      clear hl hy hlz hpz hcy hcl hcp hq5 hd
      cases q1
      · skip
        go_enter Try.func12, Try.ntmps12
        generalize hw0 : w.alloc (stRow S) = w0 at *
        go_wp2_with fail
        have hF := fun W (k : SBox w W S) => (show W.heap[w.heap.size]? = some (stRow S) ∧ W.cell? ⟨w.heap.size, 9, none⟩ = some (.slice (some x) S.zN S.zC) ∧ W.cell? ⟨w.heap.size, 11, none⟩ = some (.slice (some xl) S.lN S.lC) ∧ W.cell? ⟨w.heap.size, 12, none⟩ = some (.slice (some xp) S.pN S.pC) ∧ W.cell? (x.add (i * 3)) = some (.int .i64 y.state) ∧ W.cell? (xl.add i) = some (.int .i64 l) ∧ W.cell? (xp.add i) = some (.int .i64 p) from ⟨k.hs, by rw [← hxA.out]; exact st_cell k.hs rfl, by rw [← hlA.out]; exact st_cell k.hs rfl, by rw [← hpA.out]; exact st_cell k.hs rfl, HZ.out W k.hb, HL.out W k.hb, HP.out W k.hb⟩)
        refine Plan.start (fun W => W.heap[w.heap.size]? = some (stRow S) ∧ W.cell? ⟨w.heap.size, 9, none⟩ = some (.slice (some x) S.zN S.zC) ∧ W.cell? ⟨w.heap.size, 11, none⟩ = some (.slice (some xl) S.lN S.lC) ∧ W.cell? ⟨w.heap.size, 12, none⟩ = some (.slice (some xp) S.pN S.pC) ∧ W.cell? (x.add (i * 3)) = some (.int .i64 y.state) ∧ W.cell? (xl.add i) = some (.int .i64 l) ∧ W.cell? (xp.add i) = some (.int .i64 p)) [(0, true), (1, true), (2, true), (3, false), (4, true), (5, true), (6, true), (7, false), (8, true), (9, true), (10, true), (11, true), (12, true), (13, true), (14, true), (15, true), (16, true), (17, true), (18, true), (19, true), (20, true), (21, true), (22, true), (23, true), (24, true), (25, true), (26, true), (27, true), (28, true), (29, true), (30, true), (31, true), (32, false), (33, true), (34, true), (35, true), (36, true), (37, true), (38, true), (39, false), (40, true), (41, true), (42, true), (43, true), (44, true), (45, true), (46, true), (47, true), (48, true), (49, true), (50, true), (51, false), (52, true), (53, true), (54, true)] (by kernel_rfl) (by kernel_rfl) (by kernel_rfl) (by kernel_rfl) (hF _ K.drew) ?_
        simp only [List.map_cons, List.map_nil, List.getElem?_toArray, List.getElem?_cons_zero, List.getElem?_cons_succ]
        repeat (first | (refine Plan.take ?_ (by rfl) ?_ ?_; rotate_left; (· rintro w9 ⟨u0, u1, u2, u3, u4, u5, u6⟩; go_simp; (try rw [if_neg (by omega)]); all_goals (with_reducible rfl)); simp only [Act.put, List.setIfInBounds_toArray, List.set_cons_zero, List.set_cons_succ]) | (refine Plan.pass (by rfl) ?_; simp only [Act.put, List.setIfInBounds_toArray, List.set_cons_zero, List.set_cons_succ]))
        have K2 := K.drew
        refine Plan.take_mid 26 (.tmp 5) w.heap.size 0 _ [.int .i64 S.cz, .int .i64 S.cs, .int .i64 S.cb, .int .i64 S.cq, .int .i64 S.cd, .int .i64 S.ch] (by rfl) rfl (by rfl) (fun w9 h9 => h9.1) rfl Try.underlying26 rfl conf_info ?_
        simp only [Act.put, List.setIfInBounds_toArray, List.set_cons_zero, List.set_cons_succ]
        repeat (first | (refine Plan.take ?_ (by rfl) ?_ ?_; rotate_left; (· rintro w9 ⟨u0, u1, u2, u3, u4, u5, u6⟩; go_simp; (try rw [if_neg (by omega)]); all_goals (with_reducible rfl)); simp only [Act.put, List.setIfInBounds_toArray, List.set_cons_zero, List.set_cons_succ]) | (refine Plan.pass (by rfl) ?_; simp only [Act.put, List.setIfInBounds_toArray, List.set_cons_zero, List.set_cons_succ]))
        refine Plan.call (by rfl) 31 _ ?_ (HD.out _ K2.hb) ?_
        · go_simp
        rintro r9 w2 ⟨rfl, h2⟩
        have K3 := K2.on h2
        clear K2 h2
        have K2 := K3
        clear K3
        refine ⟨_, rfl, hF _ K2, ?_⟩
        simp only [Act.put, List.setIfInBounds_toArray, List.set_cons_zero, List.set_cons_succ]
        repeat (first | (refine Plan.take ?_ (by rfl) ?_ ?_; rotate_left; (· rintro w9 ⟨u0, u1, u2, u3, u4, u5, u6⟩; go_simp; (try rw [if_neg (by omega)]); all_goals (with_reducible rfl)); simp only [Act.put, List.setIfInBounds_toArray, List.set_cons_zero, List.set_cons_succ]) | (refine Plan.pass (by rfl) ?_; simp only [Act.put, List.setIfInBounds_toArray, List.set_cons_zero, List.set_cons_succ]))
        refine Plan.take_load 58 (.tmp 2) w.heap.size _ (by rfl) rfl (by rfl) (fun w9 h9 => h9.1) Try.underlying58 rfl st_info ?_
        simp only [Act.put, List.setIfInBounds_toArray, List.set_cons_zero, List.set_cons_succ]
        repeat (first | (refine Plan.take ?_ (by rfl) ?_ ?_; rotate_left; (· rintro w9 ⟨u0, u1, u2, u3, u4, u5, u6⟩; go_simp; (try rw [if_neg (by omega)]); all_goals (with_reducible rfl)); simp only [Act.put, List.setIfInBounds_toArray, List.set_cons_zero, List.set_cons_succ]) | (refine Plan.pass (by rfl) ?_; simp only [Act.put, List.setIfInBounds_toArray, List.set_cons_zero, List.set_cons_succ]))
        refine Plan.call (by rfl) 32 _ ?_ (HI.out _ K2.hb) ?_
        · go_simp
        rintro r9 w2 ⟨rfl, h2⟩
        have K3 := K2.on h2
        clear K2 h2
        have K2 := K3
        clear K3
        refine ⟨_, rfl, hF _ K2, ?_⟩
        simp only [Act.put, List.setIfInBounds_toArray, List.set_cons_zero, List.set_cons_succ]
        repeat (first | (refine Plan.take ?_ (by rfl) ?_ ?_; rotate_left; (· rintro w9 ⟨u0, u1, u2, u3, u4, u5, u6⟩; go_simp; (try rw [if_neg (by omega)]); all_goals (with_reducible rfl)); simp only [Act.put, List.setIfInBounds_toArray, List.set_cons_zero, List.set_cons_succ]) | (refine Plan.pass (by rfl) ?_; simp only [Act.put, List.setIfInBounds_toArray, List.set_cons_zero, List.set_cons_succ]))
        refine Plan.pass' (by rfl) (hF _ K2) ?_
        simp only [Act.put, List.setIfInBounds_toArray, List.set_cons_zero, List.set_cons_succ]
        repeat (first | (refine Plan.take ?_ (by rfl) ?_ ?_; rotate_left; (· rintro w9 ⟨u0, u1, u2, u3, u4, u5, u6⟩; go_simp; (try rw [if_neg (by omega)]); all_goals (with_reducible rfl)); simp only [Act.put, List.setIfInBounds_toArray, List.set_cons_zero, List.set_cons_succ]) | (refine Plan.pass (by rfl) ?_; simp only [Act.put, List.setIfInBounds_toArray, List.set_cons_zero, List.set_cons_succ]))
        refine Plan.pass' (by rfl) (hF _ K2) ?_
        simp only [Act.put, List.setIfInBounds_toArray, List.set_cons_zero, List.set_cons_succ]
        repeat (first | (refine Plan.take ?_ (by rfl) ?_ ?_; rotate_left; (· rintro w9 ⟨u0, u1, u2, u3, u4, u5, u6⟩; go_simp; (try rw [if_neg (by omega)]); all_goals (with_reducible rfl)); simp only [Act.put, List.setIfInBounds_toArray, List.set_cons_zero, List.set_cons_succ]) | (refine Plan.pass (by rfl) ?_; simp only [Act.put, List.setIfInBounds_toArray, List.set_cons_zero, List.set_cons_succ]))
        refine Plan.pass' (by rfl) (hF _ K2) ?_
        simp only [Act.put, List.setIfInBounds_toArray, List.set_cons_zero, List.set_cons_succ]
        repeat (first | (refine Plan.take ?_ (by rfl) ?_ ?_; rotate_left; (· rintro w9 ⟨u0, u1, u2, u3, u4, u5, u6⟩; go_simp; (try rw [if_neg (by omega)]); all_goals (with_reducible rfl)); simp only [Act.put, List.setIfInBounds_toArray, List.set_cons_zero, List.set_cons_succ]) | (refine Plan.pass (by rfl) ?_; simp only [Act.put, List.setIfInBounds_toArray, List.set_cons_zero, List.set_cons_succ]))
        refine Plan.ends ?_
        clear hF
        go_wp2_with fail
        go_ret
        exact ⟨rfl, K2.hb⟩
      cases q2
      · skip
        go_enter Try.func12, Try.ntmps12
        generalize hw0 : w.alloc (stRow S) = w0 at *
        go_wp2_with fail
        have hF := fun W (k : SBox w W S) => (show W.heap[w.heap.size]? = some (stRow S) ∧ W.cell? ⟨w.heap.size, 9, none⟩ = some (.slice (some x) S.zN S.zC) ∧ W.cell? ⟨w.heap.size, 11, none⟩ = some (.slice (some xl) S.lN S.lC) ∧ W.cell? ⟨w.heap.size, 12, none⟩ = some (.slice (some xp) S.pN S.pC) ∧ W.cell? (x.add (i * 3)) = some (.int .i64 y.state) ∧ W.cell? (xl.add i) = some (.int .i64 l) ∧ W.cell? (xp.add i) = some (.int .i64 p) from ⟨k.hs, by rw [← hxA.out]; exact st_cell k.hs rfl, by rw [← hlA.out]; exact st_cell k.hs rfl, by rw [← hpA.out]; exact st_cell k.hs rfl, HZ.out W k.hb, HL.out W k.hb, HP.out W k.hb⟩)
        refine Plan.start (fun W => W.heap[w.heap.size]? = some (stRow S) ∧ W.cell? ⟨w.heap.size, 9, none⟩ = some (.slice (some x) S.zN S.zC) ∧ W.cell? ⟨w.heap.size, 11, none⟩ = some (.slice (some xl) S.lN S.lC) ∧ W.cell? ⟨w.heap.size, 12, none⟩ = some (.slice (some xp) S.pN S.pC) ∧ W.cell? (x.add (i * 3)) = some (.int .i64 y.state) ∧ W.cell? (xl.add i) = some (.int .i64 l) ∧ W.cell? (xp.add i) = some (.int .i64 p)) [(0, true), (1, true), (2, true), (3, false), (4, true), (5, true), (6, true), (7, false), (8, true), (9, true), (10, true), (11, true), (12, true), (13, true), (14, true), (15, true), (16, true), (17, true), (18, true), (19, true), (20, true), (21, true), (22, true), (23, true), (24, true), (25, true), (26, true), (27, true), (28, true), (29, true), (30, true), (31, true), (32, false), (33, true), (34, true), (35, true), (36, true), (37, true), (38, true), (39, false), (40, true), (41, true), (42, true), (43, true), (44, true), (45, true), (46, true), (47, true), (48, true), (49, true), (50, true), (51, false), (52, true), (53, true), (54, true)] (by kernel_rfl) (by kernel_rfl) (by kernel_rfl) (by kernel_rfl) (hF _ K.drew) ?_
        simp only [List.map_cons, List.map_nil, List.getElem?_toArray, List.getElem?_cons_zero, List.getElem?_cons_succ]
        repeat (first | (refine Plan.take ?_ (by rfl) ?_ ?_; rotate_left; (· rintro w9 ⟨u0, u1, u2, u3, u4, u5, u6⟩; go_simp; (try rw [if_neg (by omega)]); all_goals (with_reducible rfl)); simp only [Act.put, List.setIfInBounds_toArray, List.set_cons_zero, List.set_cons_succ]) | (refine Plan.pass (by rfl) ?_; simp only [Act.put, List.setIfInBounds_toArray, List.set_cons_zero, List.set_cons_succ]))
        have K2 := K.drew
        refine Plan.take_mid 26 (.tmp 5) w.heap.size 0 _ [.int .i64 S.cz, .int .i64 S.cs, .int .i64 S.cb, .int .i64 S.cq, .int .i64 S.cd, .int .i64 S.ch] (by rfl) rfl (by rfl) (fun w9 h9 => h9.1) rfl Try.underlying26 rfl conf_info ?_
        simp only [Act.put, List.setIfInBounds_toArray, List.set_cons_zero, List.set_cons_succ]
        repeat (first | (refine Plan.take ?_ (by rfl) ?_ ?_; rotate_left; (· rintro w9 ⟨u0, u1, u2, u3, u4, u5, u6⟩; go_simp; (try rw [if_neg (by omega)]); all_goals (with_reducible rfl)); simp only [Act.put, List.setIfInBounds_toArray, List.set_cons_zero, List.set_cons_succ]) | (refine Plan.pass (by rfl) ?_; simp only [Act.put, List.setIfInBounds_toArray, List.set_cons_zero, List.set_cons_succ]))
        refine Plan.call (by rfl) 31 _ ?_ (HD.out _ K2.hb) ?_
        · go_simp
        rintro r9 w2 ⟨rfl, h2⟩
        have K3 := K2.on h2
        clear K2 h2
        have K2 := K3
        clear K3
        refine ⟨_, rfl, hF _ K2, ?_⟩
        simp only [Act.put, List.setIfInBounds_toArray, List.set_cons_zero, List.set_cons_succ]
        repeat (first | (refine Plan.take ?_ (by rfl) ?_ ?_; rotate_left; (· rintro w9 ⟨u0, u1, u2, u3, u4, u5, u6⟩; go_simp; (try rw [if_neg (by omega)]); all_goals (with_reducible rfl)); simp only [Act.put, List.setIfInBounds_toArray, List.set_cons_zero, List.set_cons_succ]) | (refine Plan.pass (by rfl) ?_; simp only [Act.put, List.setIfInBounds_toArray, List.set_cons_zero, List.set_cons_succ]))
        refine Plan.take_load 58 (.tmp 2) w.heap.size _ (by rfl) rfl (by rfl) (fun w9 h9 => h9.1) Try.underlying58 rfl st_info ?_
        simp only [Act.put, List.setIfInBounds_toArray, List.set_cons_zero, List.set_cons_succ]
        repeat (first | (refine Plan.take ?_ (by rfl) ?_ ?_; rotate_left; (· rintro w9 ⟨u0, u1, u2, u3, u4, u5, u6⟩; go_simp; (try rw [if_neg (by omega)]); all_goals (with_reducible rfl)); simp only [Act.put, List.setIfInBounds_toArray, List.set_cons_zero, List.set_cons_succ]) | (refine Plan.pass (by rfl) ?_; simp only [Act.put, List.setIfInBounds_toArray, List.set_cons_zero, List.set_cons_succ]))
        refine Plan.call (by rfl) 32 _ ?_ (HI.out _ K2.hb) ?_
        · go_simp
        rintro r9 w2 ⟨rfl, h2⟩
        have K3 := K2.on h2
        clear K2 h2
        have K2 := K3
        clear K3
        refine ⟨_, rfl, hF _ K2, ?_⟩
        simp only [Act.put, List.setIfInBounds_toArray, List.set_cons_zero, List.set_cons_succ]
        repeat (first | (refine Plan.take ?_ (by rfl) ?_ ?_; rotate_left; (· rintro w9 ⟨u0, u1, u2, u3, u4, u5, u6⟩; go_simp; (try rw [if_neg (by omega)]); all_goals (with_reducible rfl)); simp only [Act.put, List.setIfInBounds_toArray, List.set_cons_zero, List.set_cons_succ]) | (refine Plan.pass (by rfl) ?_; simp only [Act.put, List.setIfInBounds_toArray, List.set_cons_zero, List.set_cons_succ]))
        refine Plan.pass' (by rfl) (hF _ K2) ?_
        simp only [Act.put, List.setIfInBounds_toArray, List.set_cons_zero, List.set_cons_succ]
        repeat (first | (refine Plan.take ?_ (by rfl) ?_ ?_; rotate_left; (· rintro w9 ⟨u0, u1, u2, u3, u4, u5, u6⟩; go_simp; (try rw [if_neg (by omega)]); all_goals (with_reducible rfl)); simp only [Act.put, List.setIfInBounds_toArray, List.set_cons_zero, List.set_cons_succ]) | (refine Plan.pass (by rfl) ?_; simp only [Act.put, List.setIfInBounds_toArray, List.set_cons_zero, List.set_cons_succ]))
        refine Plan.pass' (by rfl) (hF _ K2) ?_
        simp only [Act.put, List.setIfInBounds_toArray, List.set_cons_zero, List.set_cons_succ]
        repeat (first | (refine Plan.take ?_ (by rfl) ?_ ?_; rotate_left; (· rintro w9 ⟨u0, u1, u2, u3, u4, u5, u6⟩; go_simp; (try rw [if_neg (by omega)]); all_goals (with_reducible rfl)); simp only [Act.put, List.setIfInBounds_toArray, List.set_cons_zero, List.set_cons_succ]) | (refine Plan.pass (by rfl) ?_; simp only [Act.put, List.setIfInBounds_toArray, List.set_cons_zero, List.set_cons_succ]))
        refine Plan.pass' (by rfl) (hF _ K2) ?_
        simp only [Act.put, List.setIfInBounds_toArray, List.set_cons_zero, List.set_cons_succ]
        repeat (first | (refine Plan.take ?_ (by rfl) ?_ ?_; rotate_left; (· rintro w9 ⟨u0, u1, u2, u3, u4, u5, u6⟩; go_simp; (try rw [if_neg (by omega)]); all_goals (with_reducible rfl)); simp only [Act.put, List.setIfInBounds_toArray, List.set_cons_zero, List.set_cons_succ]) | (refine Plan.pass (by rfl) ?_; simp only [Act.put, List.setIfInBounds_toArray, List.set_cons_zero, List.set_cons_succ]))
        refine Plan.ends ?_
        clear hF
        go_wp2_with fail
        go_ret
        exact ⟨rfl, K2.hb⟩
      cases qL
      rotate_left
      · skip
        go_enter Try.func12, Try.ntmps12
        generalize hw0 : w.alloc (stRow S) = w0 at *
        go_wp2_with fail
        have hF := fun W (k : SBox w W S) => (show W.heap[w.heap.size]? = some (stRow S) ∧ W.cell? ⟨w.heap.size, 9, none⟩ = some (.slice (some x) S.zN S.zC) ∧ W.cell? ⟨w.heap.size, 11, none⟩ = some (.slice (some xl) S.lN S.lC) ∧ W.cell? ⟨w.heap.size, 12, none⟩ = some (.slice (some xp) S.pN S.pC) ∧ W.cell? (x.add (i * 3)) = some (.int .i64 y.state) ∧ W.cell? (xl.add i) = some (.int .i64 l) ∧ W.cell? (xp.add i) = some (.int .i64 p) from ⟨k.hs, by rw [← hxA.out]; exact st_cell k.hs rfl, by rw [← hlA.out]; exact st_cell k.hs rfl, by rw [← hpA.out]; exact st_cell k.hs rfl, HZ.out W k.hb, HL.out W k.hb, HP.out W k.hb⟩)
        refine Plan.start (fun W => W.heap[w.heap.size]? = some (stRow S) ∧ W.cell? ⟨w.heap.size, 9, none⟩ = some (.slice (some x) S.zN S.zC) ∧ W.cell? ⟨w.heap.size, 11, none⟩ = some (.slice (some xl) S.lN S.lC) ∧ W.cell? ⟨w.heap.size, 12, none⟩ = some (.slice (some xp) S.pN S.pC) ∧ W.cell? (x.add (i * 3)) = some (.int .i64 y.state) ∧ W.cell? (xl.add i) = some (.int .i64 l) ∧ W.cell? (xp.add i) = some (.int .i64 p)) [(0, true), (1, true), (2, true), (3, false), (4, true), (5, true), (6, true), (7, false), (8, true), (9, true), (10, true), (11, true), (12, true), (13, true), (14, true), (15, true), (16, true), (17, true), (18, true), (19, true), (20, true), (21, true), (22, true), (23, true), (24, true), (25, true), (26, true), (27, true), (28, true), (29, true), (30, true), (31, true), (32, false), (33, true), (34, true), (35, true), (36, true), (37, true), (38, true), (39, false), (40, true), (41, true), (42, true), (43, true), (44, true), (45, true), (46, true), (47, true), (48, true), (49, true), (50, true), (51, false), (52, true), (53, true), (54, true)] (by kernel_rfl) (by kernel_rfl) (by kernel_rfl) (by kernel_rfl) (hF _ K.drew) ?_
        simp only [List.map_cons, List.map_nil, List.getElem?_toArray, List.getElem?_cons_zero, List.getElem?_cons_succ]
        repeat (first | (refine Plan.take ?_ (by rfl) ?_ ?_; rotate_left; (· rintro w9 ⟨u0, u1, u2, u3, u4, u5, u6⟩; go_simp; (try rw [if_neg (by omega)]); all_goals (with_reducible rfl)); simp only [Act.put, List.setIfInBounds_toArray, List.set_cons_zero, List.set_cons_succ]) | (refine Plan.pass (by rfl) ?_; simp only [Act.put, List.setIfInBounds_toArray, List.set_cons_zero, List.set_cons_succ]))
        have K2 := K.drew
        refine Plan.take_mid 26 (.tmp 5) w.heap.size 0 _ [.int .i64 S.cz, .int .i64 S.cs, .int .i64 S.cb, .int .i64 S.cq, .int .i64 S.cd, .int .i64 S.ch] (by rfl) rfl (by rfl) (fun w9 h9 => h9.1) rfl Try.underlying26 rfl conf_info ?_
        simp only [Act.put, List.setIfInBounds_toArray, List.set_cons_zero, List.set_cons_succ]
        repeat (first | (refine Plan.take ?_ (by rfl) ?_ ?_; rotate_left; (· rintro w9 ⟨u0, u1, u2, u3, u4, u5, u6⟩; go_simp; (try rw [if_neg (by omega)]); all_goals (with_reducible rfl)); simp only [Act.put, List.setIfInBounds_toArray, List.set_cons_zero, List.set_cons_succ]) | (refine Plan.pass (by rfl) ?_; simp only [Act.put, List.setIfInBounds_toArray, List.set_cons_zero, List.set_cons_succ]))
        refine Plan.call (by rfl) 31 _ ?_ (HD.out _ K2.hb) ?_
        · go_simp
        rintro r9 w2 ⟨rfl, h2⟩
        have K3 := K2.on h2
        clear K2 h2
        have K2 := K3
        clear K3
        refine ⟨_, rfl, hF _ K2, ?_⟩
        simp only [Act.put, List.setIfInBounds_toArray, List.set_cons_zero, List.set_cons_succ]
        repeat (first | (refine Plan.take ?_ (by rfl) ?_ ?_; rotate_left; (· rintro w9 ⟨u0, u1, u2, u3, u4, u5, u6⟩; go_simp; (try rw [if_neg (by omega)]); all_goals (with_reducible rfl)); simp only [Act.put, List.setIfInBounds_toArray, List.set_cons_zero, List.set_cons_succ]) | (refine Plan.pass (by rfl) ?_; simp only [Act.put, List.setIfInBounds_toArray, List.set_cons_zero, List.set_cons_succ]))
        refine Plan.take_load 58 (.tmp 2) w.heap.size _ (by rfl) rfl (by rfl) (fun w9 h9 => h9.1) Try.underlying58 rfl st_info ?_
        simp only [Act.put, List.setIfInBounds_toArray, List.set_cons_zero, List.set_cons_succ]
        repeat (first | (refine Plan.take ?_ (by rfl) ?_ ?_; rotate_left; (· rintro w9 ⟨u0, u1, u2, u3, u4, u5, u6⟩; go_simp; (try rw [if_neg (by omega)]); all_goals (with_reducible rfl)); simp only [Act.put, List.setIfInBounds_toArray, List.set_cons_zero, List.set_cons_succ]) | (refine Plan.pass (by rfl) ?_; simp only [Act.put, List.setIfInBounds_toArray, List.set_cons_zero, List.set_cons_succ]))
        refine Plan.call (by rfl) 32 _ ?_ (HI.out _ K2.hb) ?_
        · go_simp
        rintro r9 w2 ⟨rfl, h2⟩
        have K3 := K2.on h2
        clear K2 h2
        have K2 := K3
        clear K3
        refine ⟨_, rfl, hF _ K2, ?_⟩
        simp only [Act.put, List.setIfInBounds_toArray, List.set_cons_zero, List.set_cons_succ]
        repeat (first | (refine Plan.take ?_ (by rfl) ?_ ?_; rotate_left; (· rintro w9 ⟨u0, u1, u2, u3, u4, u5, u6⟩; go_simp; (try rw [if_neg (by omega)]); all_goals (with_reducible rfl)); simp only [Act.put, List.setIfInBounds_toArray, List.set_cons_zero, List.set_cons_succ]) | (refine Plan.pass (by rfl) ?_; simp only [Act.put, List.setIfInBounds_toArray, List.set_cons_zero, List.set_cons_succ]))
        refine Plan.take_mid 41 (.tmp 34) w.heap.size 17 _ [.slice S.fA S.fN S.fC, .int .i64 S.h, .int .i64 S.k] (by rfl) rfl (by rfl) (fun w9 h9 => h9.1) rfl Try.underlying41 rfl vpo_info ?_
        simp only [Act.put, List.setIfInBounds_toArray, List.set_cons_zero, List.set_cons_succ]
        repeat (first | (refine Plan.take ?_ (by rfl) ?_ ?_; rotate_left; (· rintro w9 ⟨u0, u1, u2, u3, u4, u5, u6⟩; go_simp; (try rw [if_neg (by omega)]); all_goals (with_reducible rfl)); simp only [Act.put, List.setIfInBounds_toArray, List.set_cons_zero, List.set_cons_succ]) | (refine Plan.pass (by rfl) ?_; simp only [Act.put, List.setIfInBounds_toArray, List.set_cons_zero, List.set_cons_succ]))
        refine Plan.call (by rfl) 33 _ ?_ (HLN.out _ K2.hb) ?_
        · go_simp
        rintro r9 w2 ⟨rfl, h2⟩
        have K3 := K2.on h2
        clear K2 h2
        have K2 := K3
        clear K3
        refine ⟨_, rfl, hF _ K2, ?_⟩
        simp only [Act.put, List.setIfInBounds_toArray, List.set_cons_zero, List.set_cons_succ]
        repeat (first | (refine Plan.take ?_ (by rfl) ?_ ?_; rotate_left; (· rintro w9 ⟨u0, u1, u2, u3, u4, u5, u6⟩; go_simp; (try rw [if_neg (by omega)]); all_goals (with_reducible rfl)); simp only [Act.put, List.setIfInBounds_toArray, List.set_cons_zero, List.set_cons_succ]) | (refine Plan.pass (by rfl) ?_; simp only [Act.put, List.setIfInBounds_toArray, List.set_cons_zero, List.set_cons_succ]))
        refine Plan.pass' (by rfl) (hF _ K2) ?_
        simp only [Act.put, List.setIfInBounds_toArray, List.set_cons_zero, List.set_cons_succ]
        repeat (first | (refine Plan.take ?_ (by rfl) ?_ ?_; rotate_left; (· rintro w9 ⟨u0, u1, u2, u3, u4, u5, u6⟩; go_simp; (try rw [if_neg (by omega)]); all_goals (with_reducible rfl)); simp only [Act.put, List.setIfInBounds_toArray, List.set_cons_zero, List.set_cons_succ]) | (refine Plan.pass (by rfl) ?_; simp only [Act.put, List.setIfInBounds_toArray, List.set_cons_zero, List.set_cons_succ]))
        refine Plan.pass' (by rfl) (hF _ K2) ?_
        simp only [Act.put, List.setIfInBounds_toArray, List.set_cons_zero, List.set_cons_succ]
        repeat (first | (refine Plan.take ?_ (by rfl) ?_ ?_; rotate_left; (· rintro w9 ⟨u0, u1, u2, u3, u4, u5, u6⟩; go_simp; (try rw [if_neg (by omega)]); all_goals (with_reducible rfl)); simp only [Act.put, List.setIfInBounds_toArray, List.set_cons_zero, List.set_cons_succ]) | (refine Plan.pass (by rfl) ?_; simp only [Act.put, List.setIfInBounds_toArray, List.set_cons_zero, List.set_cons_succ]))
        refine Plan.ends ?_
        clear hF
        go_wp2_with fail
        go_ret
        exact ⟨rfl, K2.hb⟩
      cases q5
      rotate_left
      · skip
        go_enter Try.func12, Try.ntmps12
        generalize hw0 : w.alloc (stRow S) = w0 at *
        go_wp2_with fail
        have hF := fun W (k : SBox w W S) => (show W.heap[w.heap.size]? = some (stRow S) ∧ W.cell? ⟨w.heap.size, 9, none⟩ = some (.slice (some x) S.zN S.zC) ∧ W.cell? ⟨w.heap.size, 11, none⟩ = some (.slice (some xl) S.lN S.lC) ∧ W.cell? ⟨w.heap.size, 12, none⟩ = some (.slice (some xp) S.pN S.pC) ∧ W.cell? (x.add (i * 3)) = some (.int .i64 y.state) ∧ W.cell? (xl.add i) = some (.int .i64 l) ∧ W.cell? (xp.add i) = some (.int .i64 p) from ⟨k.hs, by rw [← hxA.out]; exact st_cell k.hs rfl, by rw [← hlA.out]; exact st_cell k.hs rfl, by rw [← hpA.out]; exact st_cell k.hs rfl, HZ.out W k.hb, HL.out W k.hb, HP.out W k.hb⟩)
        refine Plan.start (fun W => W.heap[w.heap.size]? = some (stRow S) ∧ W.cell? ⟨w.heap.size, 9, none⟩ = some (.slice (some x) S.zN S.zC) ∧ W.cell? ⟨w.heap.size, 11, none⟩ = some (.slice (some xl) S.lN S.lC) ∧ W.cell? ⟨w.heap.size, 12, none⟩ = some (.slice (some xp) S.pN S.pC) ∧ W.cell? (x.add (i * 3)) = some (.int .i64 y.state) ∧ W.cell? (xl.add i) = some (.int .i64 l) ∧ W.cell? (xp.add i) = some (.int .i64 p)) [(0, true), (1, true), (2, true), (3, false), (4, true), (5, true), (6, true), (7, false), (8, true), (9, true), (10, true), (11, true), (12, true), (13, true), (14, true), (15, true), (16, true), (17, true), (18, true), (19, true), (20, true), (21, true), (22, true), (23, true), (24, true), (25, true), (26, true), (27, true), (28, true), (29, true), (30, true), (31, true), (32, false), (33, true), (34, true), (35, true), (36, true), (37, true), (38, true), (39, false), (40, true), (41, true), (42, true), (43, true), (44, true), (45, true), (46, true), (47, true), (48, true), (49, true), (50, true), (51, false), (52, true), (53, true), (54, true)] (by kernel_rfl) (by kernel_rfl) (by kernel_rfl) (by kernel_rfl) (hF _ K.drew) ?_
        simp only [List.map_cons, List.map_nil, List.getElem?_toArray, List.getElem?_cons_zero, List.getElem?_cons_succ]
        repeat (first | (refine Plan.take ?_ (by rfl) ?_ ?_; rotate_left; (· rintro w9 ⟨u0, u1, u2, u3, u4, u5, u6⟩; go_simp; (try rw [if_neg (by omega)]); all_goals (with_reducible rfl)); simp only [Act.put, List.setIfInBounds_toArray, List.set_cons_zero, List.set_cons_succ]) | (refine Plan.pass (by rfl) ?_; simp only [Act.put, List.setIfInBounds_toArray, List.set_cons_zero, List.set_cons_succ]))
        have K2 := K.drew
        refine Plan.take_mid 26 (.tmp 5) w.heap.size 0 _ [.int .i64 S.cz, .int .i64 S.cs, .int .i64 S.cb, .int .i64 S.cq, .int .i64 S.cd, .int .i64 S.ch] (by rfl) rfl (by rfl) (fun w9 h9 => h9.1) rfl Try.underlying26 rfl conf_info ?_
        simp only [Act.put, List.setIfInBounds_toArray, List.set_cons_zero, List.set_cons_succ]
        repeat (first | (refine Plan.take ?_ (by rfl) ?_ ?_; rotate_left; (· rintro w9 ⟨u0, u1, u2, u3, u4, u5, u6⟩; go_simp; (try rw [if_neg (by omega)]); all_goals (with_reducible rfl)); simp only [Act.put, List.setIfInBounds_toArray, List.set_cons_zero, List.set_cons_succ]) | (refine Plan.pass (by rfl) ?_; simp only [Act.put, List.setIfInBounds_toArray, List.set_cons_zero, List.set_cons_succ]))
        refine Plan.call (by rfl) 31 _ ?_ (HD.out _ K2.hb) ?_
        · go_simp
        rintro r9 w2 ⟨rfl, h2⟩
        have K3 := K2.on h2
        clear K2 h2
        have K2 := K3
        clear K3
        refine ⟨_, rfl, hF _ K2, ?_⟩
        simp only [Act.put, List.setIfInBounds_toArray, List.set_cons_zero, List.set_cons_succ]
        repeat (first | (refine Plan.take ?_ (by rfl) ?_ ?_; rotate_left; (· rintro w9 ⟨u0, u1, u2, u3, u4, u5, u6⟩; go_simp; (try rw [if_neg (by omega)]); all_goals (with_reducible rfl)); simp only [Act.put, List.setIfInBounds_toArray, List.set_cons_zero, List.set_cons_succ]) | (refine Plan.pass (by rfl) ?_; simp only [Act.put, List.setIfInBounds_toArray, List.set_cons_zero, List.set_cons_succ]))
        refine Plan.take_load 58 (.tmp 2) w.heap.size _ (by rfl) rfl (by rfl) (fun w9 h9 => h9.1) Try.underlying58 rfl st_info ?_
        simp only [Act.put, List.setIfInBounds_toArray, List.set_cons_zero, List.set_cons_succ]
        repeat (first | (refine Plan.take ?_ (by rfl) ?_ ?_; rotate_left; (· rintro w9 ⟨u0, u1, u2, u3, u4, u5, u6⟩; go_simp; (try rw [if_neg (by omega)]); all_goals (with_reducible rfl)); simp only [Act.put, List.setIfInBounds_toArray, List.set_cons_zero, List.set_cons_succ]) | (refine Plan.pass (by rfl) ?_; simp only [Act.put, List.setIfInBounds_toArray, List.set_cons_zero, List.set_cons_succ]))
        refine Plan.call (by rfl) 32 _ ?_ (HI.out _ K2.hb) ?_
        · go_simp
        rintro r9 w2 ⟨rfl, h2⟩
        have K3 := K2.on h2
        clear K2 h2
        have K2 := K3
        clear K3
        refine ⟨_, rfl, hF _ K2, ?_⟩
        simp only [Act.put, List.setIfInBounds_toArray, List.set_cons_zero, List.set_cons_succ]
        repeat (first | (refine Plan.take ?_ (by rfl) ?_ ?_; rotate_left; (· rintro w9 ⟨u0, u1, u2, u3, u4, u5, u6⟩; go_simp; (try rw [if_neg (by omega)]); all_goals (with_reducible rfl)); simp only [Act.put, List.setIfInBounds_toArray, List.set_cons_zero, List.set_cons_succ]) | (refine Plan.pass (by rfl) ?_; simp only [Act.put, List.setIfInBounds_toArray, List.set_cons_zero, List.set_cons_succ]))
        refine Plan.take_mid 41 (.tmp 34) w.heap.size 17 _ [.slice S.fA S.fN S.fC, .int .i64 S.h, .int .i64 S.k] (by rfl) rfl (by rfl) (fun w9 h9 => h9.1) rfl Try.underlying41 rfl vpo_info ?_
        simp only [Act.put, List.setIfInBounds_toArray, List.set_cons_zero, List.set_cons_succ]
        repeat (first | (refine Plan.take ?_ (by rfl) ?_ ?_; rotate_left; (· rintro w9 ⟨u0, u1, u2, u3, u4, u5, u6⟩; go_simp; (try rw [if_neg (by omega)]); all_goals (with_reducible rfl)); simp only [Act.put, List.setIfInBounds_toArray, List.set_cons_zero, List.set_cons_succ]) | (refine Plan.pass (by rfl) ?_; simp only [Act.put, List.setIfInBounds_toArray, List.set_cons_zero, List.set_cons_succ]))
        refine Plan.call (by rfl) 33 _ ?_ (HLN.out _ K2.hb) ?_
        · go_simp
        rintro r9 w2 ⟨rfl, h2⟩
        have K3 := K2.on h2
        clear K2 h2
        have K2 := K3
        clear K3
        refine ⟨_, rfl, hF _ K2, ?_⟩
        simp only [Act.put, List.setIfInBounds_toArray, List.set_cons_zero, List.set_cons_succ]
        repeat (first | (refine Plan.take ?_ (by rfl) ?_ ?_; rotate_left; (· rintro w9 ⟨u0, u1, u2, u3, u4, u5, u6⟩; go_simp; (try rw [if_neg (by omega)]); all_goals (with_reducible rfl)); simp only [Act.put, List.setIfInBounds_toArray, List.set_cons_zero, List.set_cons_succ]) | (refine Plan.pass (by rfl) ?_; simp only [Act.put, List.setIfInBounds_toArray, List.set_cons_zero, List.set_cons_succ]))
        refine Plan.take_mid 39 (.tmp 41) w.heap.size 14 _ [.int .i64 S.eg, .slice S.iA S.iN S.iC, .slice S.rA S.rN S.rC] (by rfl) rfl (by rfl) (fun w9 h9 => h9.1) rfl Try.underlying39 rfl epo_info ?_
        simp only [Act.put, List.setIfInBounds_toArray, List.set_cons_zero, List.set_cons_succ]
        repeat (first | (refine Plan.take ?_ (by rfl) ?_ ?_; rotate_left; (· rintro w9 ⟨u0, u1, u2, u3, u4, u5, u6⟩; go_simp; (try rw [if_neg (by omega)]); all_goals (with_reducible rfl)); simp only [Act.put, List.setIfInBounds_toArray, List.set_cons_zero, List.set_cons_succ]) | (refine Plan.pass (by rfl) ?_; simp only [Act.put, List.setIfInBounds_toArray, List.set_cons_zero, List.set_cons_succ]))
        refine Plan.call (by rfl) 34 _ ?_ (HRT.out _ K2.hb) ?_
        · go_simp
        rintro r9 w2 ⟨rfl, h2⟩
        have K3 := K2.on h2
        clear K2 h2
        have K2 := K3
        clear K3
        refine ⟨_, rfl, hF _ K2, ?_⟩
        simp only [Act.put, List.setIfInBounds_toArray, List.set_cons_zero, List.set_cons_succ]
        repeat (first | (refine Plan.take ?_ (by rfl) ?_ ?_; rotate_left; (· rintro w9 ⟨u0, u1, u2, u3, u4, u5, u6⟩; go_simp; (try rw [if_neg (by omega)]); all_goals (with_reducible rfl)); simp only [Act.put, List.setIfInBounds_toArray, List.set_cons_zero, List.set_cons_succ]) | (refine Plan.pass (by rfl) ?_; simp only [Act.put, List.setIfInBounds_toArray, List.set_cons_zero, List.set_cons_succ]))
        refine Plan.pass' (by rfl) (hF _ K2) ?_
        simp only [Act.put, List.setIfInBounds_toArray, List.set_cons_zero, List.set_cons_succ]
        repeat (first | (refine Plan.take ?_ (by rfl) ?_ ?_; rotate_left; (· rintro w9 ⟨u0, u1, u2, u3, u4, u5, u6⟩; go_simp; (try rw [if_neg (by omega)]); all_goals (with_reducible rfl)); simp only [Act.put, List.setIfInBounds_toArray, List.set_cons_zero, List.set_cons_succ]) | (refine Plan.pass (by rfl) ?_; simp only [Act.put, List.setIfInBounds_toArray, List.set_cons_zero, List.set_cons_succ]))
        refine Plan.ends ?_
        clear hF
        go_wp2_with fail
        go_ret
        exact ⟨rfl, K2.hb⟩
      cases q6
      · skip
        go_enter Try.func12, Try.ntmps12
        generalize hw0 : w.alloc (stRow S) = w0 at *
        go_wp2_with fail
        have hF := fun W (k : SBox w W S) => (show W.heap[w.heap.size]? = some (stRow S) ∧ W.cell? ⟨w.heap.size, 9, none⟩ = some (.slice (some x) S.zN S.zC) ∧ W.cell? ⟨w.heap.size, 11, none⟩ = some (.slice (some xl) S.lN S.lC) ∧ W.cell? ⟨w.heap.size, 12, none⟩ = some (.slice (some xp) S.pN S.pC) ∧ W.cell? (x.add (i * 3)) = some (.int .i64 y.state) ∧ W.cell? (xl.add i) = some (.int .i64 l) ∧ W.cell? (xp.add i) = some (.int .i64 p) from ⟨k.hs, by rw [← hxA.out]; exact st_cell k.hs rfl, by rw [← hlA.out]; exact st_cell k.hs rfl, by rw [← hpA.out]; exact st_cell k.hs rfl, HZ.out W k.hb, HL.out W k.hb, HP.out W k.hb⟩)
        refine Plan.start (fun W => W.heap[w.heap.size]? = some (stRow S) ∧ W.cell? ⟨w.heap.size, 9, none⟩ = some (.slice (some x) S.zN S.zC) ∧ W.cell? ⟨w.heap.size, 11, none⟩ = some (.slice (some xl) S.lN S.lC) ∧ W.cell? ⟨w.heap.size, 12, none⟩ = some (.slice (some xp) S.pN S.pC) ∧ W.cell? (x.add (i * 3)) = some (.int .i64 y.state) ∧ W.cell? (xl.add i) = some (.int .i64 l) ∧ W.cell? (xp.add i) = some (.int .i64 p)) [(0, true), (1, true), (2, true), (3, false), (4, true), (5, true), (6, true), (7, false), (8, true), (9, true), (10, true), (11, true), (12, true), (13, true), (14, true), (15, true), (16, true), (17, true), (18, true), (19, true), (20, true), (21, true), (22, true), (23, true), (24, true), (25, true), (26, true), (27, true), (28, true), (29, true), (30, true), (31, true), (32, false), (33, true), (34, true), (35, true), (36, true), (37, true), (38, true), (39, false), (40, true), (41, true), (42, true), (43, true), (44, true), (45, true), (46, true), (47, true), (48, true), (49, true), (50, true), (51, false), (52, true), (53, true), (54, true)] (by kernel_rfl) (by kernel_rfl) (by kernel_rfl) (by kernel_rfl) (hF _ K.drew) ?_
        simp only [List.map_cons, List.map_nil, List.getElem?_toArray, List.getElem?_cons_zero, List.getElem?_cons_succ]
        repeat (first | (refine Plan.take ?_ (by rfl) ?_ ?_; rotate_left; (· rintro w9 ⟨u0, u1, u2, u3, u4, u5, u6⟩; go_simp; (try rw [if_neg (by omega)]); all_goals (with_reducible rfl)); simp only [Act.put, List.setIfInBounds_toArray, List.set_cons_zero, List.set_cons_succ]) | (refine Plan.pass (by rfl) ?_; simp only [Act.put, List.setIfInBounds_toArray, List.set_cons_zero, List.set_cons_succ]))
        have K2 := K.drew
        refine Plan.take_mid 26 (.tmp 5) w.heap.size 0 _ [.int .i64 S.cz, .int .i64 S.cs, .int .i64 S.cb, .int .i64 S.cq, .int .i64 S.cd, .int .i64 S.ch] (by rfl) rfl (by rfl) (fun w9 h9 => h9.1) rfl Try.underlying26 rfl conf_info ?_
        simp only [Act.put, List.setIfInBounds_toArray, List.set_cons_zero, List.set_cons_succ]
        repeat (first | (refine Plan.take ?_ (by rfl) ?_ ?_; rotate_left; (· rintro w9 ⟨u0, u1, u2, u3, u4, u5, u6⟩; go_simp; (try rw [if_neg (by omega)]); all_goals (with_reducible rfl)); simp only [Act.put, List.setIfInBounds_toArray, List.set_cons_zero, List.set_cons_succ]) | (refine Plan.pass (by rfl) ?_; simp only [Act.put, List.setIfInBounds_toArray, List.set_cons_zero, List.set_cons_succ]))
        refine Plan.call (by rfl) 31 _ ?_ (HD.out _ K2.hb) ?_
        · go_simp
        rintro r9 w2 ⟨rfl, h2⟩
        have K3 := K2.on h2
        clear K2 h2
        have K2 := K3
        clear K3
        refine ⟨_, rfl, hF _ K2, ?_⟩
        simp only [Act.put, List.setIfInBounds_toArray, List.set_cons_zero, List.set_cons_succ]
        repeat (first | (refine Plan.take ?_ (by rfl) ?_ ?_; rotate_left; (· rintro w9 ⟨u0, u1, u2, u3, u4, u5, u6⟩; go_simp; (try rw [if_neg (by omega)]); all_goals (with_reducible rfl)); simp only [Act.put, List.setIfInBounds_toArray, List.set_cons_zero, List.set_cons_succ]) | (refine Plan.pass (by rfl) ?_; simp only [Act.put, List.setIfInBounds_toArray, List.set_cons_zero, List.set_cons_succ]))
        refine Plan.take_load 58 (.tmp 2) w.heap.size _ (by rfl) rfl (by rfl) (fun w9 h9 => h9.1) Try.underlying58 rfl st_info ?_
        simp only [Act.put, List.setIfInBounds_toArray, List.set_cons_zero, List.set_cons_succ]
        repeat (first | (refine Plan.take ?_ (by rfl) ?_ ?_; rotate_left; (· rintro w9 ⟨u0, u1, u2, u3, u4, u5, u6⟩; go_simp; (try rw [if_neg (by omega)]); all_goals (with_reducible rfl)); simp only [Act.put, List.setIfInBounds_toArray, List.set_cons_zero, List.set_cons_succ]) | (refine Plan.pass (by rfl) ?_; simp only [Act.put, List.setIfInBounds_toArray, List.set_cons_zero, List.set_cons_succ]))
        refine Plan.call (by rfl) 32 _ ?_ (HI.out _ K2.hb) ?_
        · go_simp
        rintro r9 w2 ⟨rfl, h2⟩
        have K3 := K2.on h2
        clear K2 h2
        have K2 := K3
        clear K3
        refine ⟨_, rfl, hF _ K2, ?_⟩
        simp only [Act.put, List.setIfInBounds_toArray, List.set_cons_zero, List.set_cons_succ]
        repeat (first | (refine Plan.take ?_ (by rfl) ?_ ?_; rotate_left; (· rintro w9 ⟨u0, u1, u2, u3, u4, u5, u6⟩; go_simp; (try rw [if_neg (by omega)]); all_goals (with_reducible rfl)); simp only [Act.put, List.setIfInBounds_toArray, List.set_cons_zero, List.set_cons_succ]) | (refine Plan.pass (by rfl) ?_; simp only [Act.put, List.setIfInBounds_toArray, List.set_cons_zero, List.set_cons_succ]))
        refine Plan.take_mid 41 (.tmp 34) w.heap.size 17 _ [.slice S.fA S.fN S.fC, .int .i64 S.h, .int .i64 S.k] (by rfl) rfl (by rfl) (fun w9 h9 => h9.1) rfl Try.underlying41 rfl vpo_info ?_
        simp only [Act.put, List.setIfInBounds_toArray, List.set_cons_zero, List.set_cons_succ]
        repeat (first | (refine Plan.take ?_ (by rfl) ?_ ?_; rotate_left; (· rintro w9 ⟨u0, u1, u2, u3, u4, u5, u6⟩; go_simp; (try rw [if_neg (by omega)]); all_goals (with_reducible rfl)); simp only [Act.put, List.setIfInBounds_toArray, List.set_cons_zero, List.set_cons_succ]) | (refine Plan.pass (by rfl) ?_; simp only [Act.put, List.setIfInBounds_toArray, List.set_cons_zero, List.set_cons_succ]))
        refine Plan.call (by rfl) 33 _ ?_ (HLN.out _ K2.hb) ?_
        · go_simp
        rintro r9 w2 ⟨rfl, h2⟩
        have K3 := K2.on h2
        clear K2 h2
        have K2 := K3
        clear K3
        refine ⟨_, rfl, hF _ K2, ?_⟩
        simp only [Act.put, List.setIfInBounds_toArray, List.set_cons_zero, List.set_cons_succ]
        repeat (first | (refine Plan.take ?_ (by rfl) ?_ ?_; rotate_left; (· rintro w9 ⟨u0, u1, u2, u3, u4, u5, u6⟩; go_simp; (try rw [if_neg (by omega)]); all_goals (with_reducible rfl)); simp only [Act.put, List.setIfInBounds_toArray, List.set_cons_zero, List.set_cons_succ]) | (refine Plan.pass (by rfl) ?_; simp only [Act.put, List.setIfInBounds_toArray, List.set_cons_zero, List.set_cons_succ]))
        refine Plan.take_mid 39 (.tmp 41) w.heap.size 14 _ [.int .i64 S.eg, .slice S.iA S.iN S.iC, .slice S.rA S.rN S.rC] (by rfl) rfl (by rfl) (fun w9 h9 => h9.1) rfl Try.underlying39 rfl epo_info ?_
        simp only [Act.put, List.setIfInBounds_toArray, List.set_cons_zero, List.set_cons_succ]
        repeat (first | (refine Plan.take ?_ (by rfl) ?_ ?_; rotate_left; (· rintro w9 ⟨u0, u1, u2, u3, u4, u5, u6⟩; go_simp; (try rw [if_neg (by omega)]); all_goals (with_reducible rfl)); simp only [Act.put, List.setIfInBounds_toArray, List.set_cons_zero, List.set_cons_succ]) | (refine Plan.pass (by rfl) ?_; simp only [Act.put, List.setIfInBounds_toArray, List.set_cons_zero, List.set_cons_succ]))
        refine Plan.call (by rfl) 34 _ ?_ (HRT.out _ K2.hb) ?_
        · go_simp
        rintro r9 w2 ⟨rfl, h2⟩
        have K3 := K2.on h2
        clear K2 h2
        have K2 := K3
        clear K3
        refine ⟨_, rfl, hF _ K2, ?_⟩
        simp only [Act.put, List.setIfInBounds_toArray, List.set_cons_zero, List.set_cons_succ]
        repeat (first | (refine Plan.take ?_ (by rfl) ?_ ?_; rotate_left; (· rintro w9 ⟨u0, u1, u2, u3, u4, u5, u6⟩; go_simp; (try rw [if_neg (by omega)]); all_goals (with_reducible rfl)); simp only [Act.put, List.setIfInBounds_toArray, List.set_cons_zero, List.set_cons_succ]) | (refine Plan.pass (by rfl) ?_; simp only [Act.put, List.setIfInBounds_toArray, List.set_cons_zero, List.set_cons_succ]))
        refine Plan.take_mid 26 (.tmp 54) w.heap.size 0 _ [.int .i64 S.cz, .int .i64 S.cs, .int .i64 S.cb, .int .i64 S.cq, .int .i64 S.cd, .int .i64 S.ch] (by rfl) rfl (by rfl) (fun w9 h9 => h9.1) rfl Try.underlying26 rfl conf_info ?_
        simp only [Act.put, List.setIfInBounds_toArray, List.set_cons_zero, List.set_cons_succ]
        repeat (first | (refine Plan.take ?_ (by rfl) ?_ ?_; rotate_left; (· rintro w9 ⟨u0, u1, u2, u3, u4, u5, u6⟩; go_simp; (try rw [if_neg (by omega)]); all_goals (with_reducible rfl)); simp only [Act.put, List.setIfInBounds_toArray, List.set_cons_zero, List.set_cons_succ]) | (refine Plan.pass (by rfl) ?_; simp only [Act.put, List.setIfInBounds_toArray, List.set_cons_zero, List.set_cons_succ]))
        refine Plan.call (by rfl) 35 _ ?_ (HRC.out _ K2.hb) ?_
        · go_simp
        rintro r9 w2 ⟨rfl, h2⟩
        have K3 := K2.on h2
        clear K2 h2
        have K2 := K3
        clear K3
        refine ⟨_, rfl, hF _ K2, ?_⟩
        simp only [Act.put, List.setIfInBounds_toArray, List.set_cons_zero, List.set_cons_succ]
        repeat (first | (refine Plan.take ?_ (by rfl) ?_ ?_; rotate_left; (· rintro w9 ⟨u0, u1, u2, u3, u4, u5, u6⟩; go_simp; (try rw [if_neg (by omega)]); all_goals (with_reducible rfl)); simp only [Act.put, List.setIfInBounds_toArray, List.set_cons_zero, List.set_cons_succ]) | (refine Plan.pass (by rfl) ?_; simp only [Act.put, List.setIfInBounds_toArray, List.set_cons_zero, List.set_cons_succ]))
        refine Plan.ends ?_
        clear hF
        go_wp2_with fail
        go_ret
        exact ⟨rfl, K2.hb⟩
      · skip
        go_enter Try.func12, Try.ntmps12
        generalize hw0 : w.alloc (stRow S) = w0 at *
        go_wp2_with fail
        have hF := fun W (k : SBox w W S) => (show W.heap[w.heap.size]? = some (stRow S) ∧ W.cell? ⟨w.heap.size, 9, none⟩ = some (.slice (some x) S.zN S.zC) ∧ W.cell? ⟨w.heap.size, 11, none⟩ = some (.slice (some xl) S.lN S.lC) ∧ W.cell? ⟨w.heap.size, 12, none⟩ = some (.slice (some xp) S.pN S.pC) ∧ W.cell? (x.add (i * 3)) = some (.int .i64 y.state) ∧ W.cell? (xl.add i) = some (.int .i64 l) ∧ W.cell? (xp.add i) = some (.int .i64 p) from ⟨k.hs, by rw [← hxA.out]; exact st_cell k.hs rfl, by rw [← hlA.out]; exact st_cell k.hs rfl, by rw [← hpA.out]; exact st_cell k.hs rfl, HZ.out W k.hb, HL.out W k.hb, HP.out W k.hb⟩)
        refine Plan.start (fun W => W.heap[w.heap.size]? = some (stRow S) ∧ W.cell? ⟨w.heap.size, 9, none⟩ = some (.slice (some x) S.zN S.zC) ∧ W.cell? ⟨w.heap.size, 11, none⟩ = some (.slice (some xl) S.lN S.lC) ∧ W.cell? ⟨w.heap.size, 12, none⟩ = some (.slice (some xp) S.pN S.pC) ∧ W.cell? (x.add (i * 3)) = some (.int .i64 y.state) ∧ W.cell? (xl.add i) = some (.int .i64 l) ∧ W.cell? (xp.add i) = some (.int .i64 p)) [(0, true), (1, true), (2, true), (3, false), (4, true), (5, true), (6, true), (7, false), (8, true), (9, true), (10, true), (11, true), (12, true), (13, true), (14, true), (15, true), (16, true), (17, true), (18, true), (19, true), (20, true), (21, true), (22, true), (23, true), (24, true), (25, true), (26, true), (27, true), (28, true), (29, true), (30, true), (31, true), (32, false), (33, true), (34, true), (35, true), (36, true), (37, true), (38, true), (39, false), (40, true), (41, true), (42, true), (43, true), (44, true), (45, true), (46, true), (47, true), (48, true), (49, true), (50, true), (51, false), (52, true), (53, true), (54, true)] (by kernel_rfl) (by kernel_rfl) (by kernel_rfl) (by kernel_rfl) (hF _ K.drew) ?_
        simp only [List.map_cons, List.map_nil, List.getElem?_toArray, List.getElem?_cons_zero, List.getElem?_cons_succ]
        repeat (first | (refine Plan.take ?_ (by rfl) ?_ ?_; rotate_left; (· rintro w9 ⟨u0, u1, u2, u3, u4, u5, u6⟩; go_simp; (try rw [if_neg (by omega)]); all_goals (with_reducible rfl)); simp only [Act.put, List.setIfInBounds_toArray, List.set_cons_zero, List.set_cons_succ]) | (refine Plan.pass (by rfl) ?_; simp only [Act.put, List.setIfInBounds_toArray, List.set_cons_zero, List.set_cons_succ]))
        have K2 := K.drew
        refine Plan.take_mid 26 (.tmp 5) w.heap.size 0 _ [.int .i64 S.cz, .int .i64 S.cs, .int .i64 S.cb, .int .i64 S.cq, .int .i64 S.cd, .int .i64 S.ch] (by rfl) rfl (by rfl) (fun w9 h9 => h9.1) rfl Try.underlying26 rfl conf_info ?_
        simp only [Act.put, List.setIfInBounds_toArray, List.set_cons_zero, List.set_cons_succ]
        repeat (first | (refine Plan.take ?_ (by rfl) ?_ ?_; rotate_left; (· rintro w9 ⟨u0, u1, u2, u3, u4, u5, u6⟩; go_simp; (try rw [if_neg (by omega)]); all_goals (with_reducible rfl)); simp only [Act.put, List.setIfInBounds_toArray, List.set_cons_zero, List.set_cons_succ]) | (refine Plan.pass (by rfl) ?_; simp only [Act.put, List.setIfInBounds_toArray, List.set_cons_zero, List.set_cons_succ]))
        refine Plan.call (by rfl) 31 _ ?_ (HD.out _ K2.hb) ?_
        · go_simp
        rintro r9 w2 ⟨rfl, h2⟩
        have K3 := K2.on h2
        clear K2 h2
        have K2 := K3
        clear K3
        refine ⟨_, rfl, hF _ K2, ?_⟩
        simp only [Act.put, List.setIfInBounds_toArray, List.set_cons_zero, List.set_cons_succ]
        repeat (first | (refine Plan.take ?_ (by rfl) ?_ ?_; rotate_left; (· rintro w9 ⟨u0, u1, u2, u3, u4, u5, u6⟩; go_simp; (try rw [if_neg (by omega)]); all_goals (with_reducible rfl)); simp only [Act.put, List.setIfInBounds_toArray, List.set_cons_zero, List.set_cons_succ]) | (refine Plan.pass (by rfl) ?_; simp only [Act.put, List.setIfInBounds_toArray, List.set_cons_zero, List.set_cons_succ]))
        refine Plan.take_load 58 (.tmp 2) w.heap.size _ (by rfl) rfl (by rfl) (fun w9 h9 => h9.1) Try.underlying58 rfl st_info ?_
        simp only [Act.put, List.setIfInBounds_toArray, List.set_cons_zero, List.set_cons_succ]
        repeat (first | (refine Plan.take ?_ (by rfl) ?_ ?_; rotate_left; (· rintro w9 ⟨u0, u1, u2, u3, u4, u5, u6⟩; go_simp; (try rw [if_neg (by omega)]); all_goals (with_reducible rfl)); simp only [Act.put, List.setIfInBounds_toArray, List.set_cons_zero, List.set_cons_succ]) | (refine Plan.pass (by rfl) ?_; simp only [Act.put, List.setIfInBounds_toArray, List.set_cons_zero, List.set_cons_succ]))
        refine Plan.call (by rfl) 32 _ ?_ (HI.out _ K2.hb) ?_
        · go_simp
        rintro r9 w2 ⟨rfl, h2⟩
        have K3 := K2.on h2
        clear K2 h2
        have K2 := K3
        clear K3
        refine ⟨_, rfl, hF _ K2, ?_⟩
        simp only [Act.put, List.setIfInBounds_toArray, List.set_cons_zero, List.set_cons_succ]
        repeat (first | (refine Plan.take ?_ (by rfl) ?_ ?_; rotate_left; (· rintro w9 ⟨u0, u1, u2, u3, u4, u5, u6⟩; go_simp; (try rw [if_neg (by omega)]); all_goals (with_reducible rfl)); simp only [Act.put, List.setIfInBounds_toArray, List.set_cons_zero, List.set_cons_succ]) | (refine Plan.pass (by rfl) ?_; simp only [Act.put, List.setIfInBounds_toArray, List.set_cons_zero, List.set_cons_succ]))
        refine Plan.take_mid 41 (.tmp 34) w.heap.size 17 _ [.slice S.fA S.fN S.fC, .int .i64 S.h, .int .i64 S.k] (by rfl) rfl (by rfl) (fun w9 h9 => h9.1) rfl Try.underlying41 rfl vpo_info ?_
        simp only [Act.put, List.setIfInBounds_toArray, List.set_cons_zero, List.set_cons_succ]
        repeat (first | (refine Plan.take ?_ (by rfl) ?_ ?_; rotate_left; (· rintro w9 ⟨u0, u1, u2, u3, u4, u5, u6⟩; go_simp; (try rw [if_neg (by omega)]); all_goals (with_reducible rfl)); simp only [Act.put, List.setIfInBounds_toArray, List.set_cons_zero, List.set_cons_succ]) | (refine Plan.pass (by rfl) ?_; simp only [Act.put, List.setIfInBounds_toArray, List.set_cons_zero, List.set_cons_succ]))
        refine Plan.call (by rfl) 33 _ ?_ (HLN.out _ K2.hb) ?_
        · go_simp
        rintro r9 w2 ⟨rfl, h2⟩
        have K3 := K2.on h2
        clear K2 h2
        have K2 := K3
        clear K3
        refine ⟨_, rfl, hF _ K2, ?_⟩
        simp only [Act.put, List.setIfInBounds_toArray, List.set_cons_zero, List.set_cons_succ]
        repeat (first | (refine Plan.take ?_ (by rfl) ?_ ?_; rotate_left; (· rintro w9 ⟨u0, u1, u2, u3, u4, u5, u6⟩; go_simp; (try rw [if_neg (by omega)]); all_goals (with_reducible rfl)); simp only [Act.put, List.setIfInBounds_toArray, List.set_cons_zero, List.set_cons_succ]) | (refine Plan.pass (by rfl) ?_; simp only [Act.put, List.setIfInBounds_toArray, List.set_cons_zero, List.set_cons_succ]))
        refine Plan.take_mid 39 (.tmp 41) w.heap.size 14 _ [.int .i64 S.eg, .slice S.iA S.iN S.iC, .slice S.rA S.rN S.rC] (by rfl) rfl (by rfl) (fun w9 h9 => h9.1) rfl Try.underlying39 rfl epo_info ?_
        simp only [Act.put, List.setIfInBounds_toArray, List.set_cons_zero, List.set_cons_succ]
        repeat (first | (refine Plan.take ?_ (by rfl) ?_ ?_; rotate_left; (· rintro w9 ⟨u0, u1, u2, u3, u4, u5, u6⟩; go_simp; (try rw [if_neg (by omega)]); all_goals (with_reducible rfl)); simp only [Act.put, List.setIfInBounds_toArray, List.set_cons_zero, List.set_cons_succ]) | (refine Plan.pass (by rfl) ?_; simp only [Act.put, List.setIfInBounds_toArray, List.set_cons_zero, List.set_cons_succ]))
        refine Plan.call (by rfl) 34 _ ?_ (HRT.out _ K2.hb) ?_
        · go_simp
        rintro r9 w2 ⟨rfl, h2⟩
        have K3 := K2.on h2
        clear K2 h2
        have K2 := K3
        clear K3
        refine ⟨_, rfl, hF _ K2, ?_⟩
        simp only [Act.put, List.setIfInBounds_toArray, List.set_cons_zero, List.set_cons_succ]
        repeat (first | (refine Plan.take ?_ (by rfl) ?_ ?_; rotate_left; (· rintro w9 ⟨u0, u1, u2, u3, u4, u5, u6⟩; go_simp; (try rw [if_neg (by omega)]); all_goals (with_reducible rfl)); simp only [Act.put, List.setIfInBounds_toArray, List.set_cons_zero, List.set_cons_succ]) | (refine Plan.pass (by rfl) ?_; simp only [Act.put, List.setIfInBounds_toArray, List.set_cons_zero, List.set_cons_succ]))
        refine Plan.take_mid 26 (.tmp 54) w.heap.size 0 _ [.int .i64 S.cz, .int .i64 S.cs, .int .i64 S.cb, .int .i64 S.cq, .int .i64 S.cd, .int .i64 S.ch] (by rfl) rfl (by rfl) (fun w9 h9 => h9.1) rfl Try.underlying26 rfl conf_info ?_
        simp only [Act.put, List.setIfInBounds_toArray, List.set_cons_zero, List.set_cons_succ]
        repeat (first | (refine Plan.take ?_ (by rfl) ?_ ?_; rotate_left; (· rintro w9 ⟨u0, u1, u2, u3, u4, u5, u6⟩; go_simp; (try rw [if_neg (by omega)]); all_goals (with_reducible rfl)); simp only [Act.put, List.setIfInBounds_toArray, List.set_cons_zero, List.set_cons_succ]) | (refine Plan.pass (by rfl) ?_; simp only [Act.put, List.setIfInBounds_toArray, List.set_cons_zero, List.set_cons_succ]))
        refine Plan.call (by rfl) 35 _ ?_ (HRC.out _ K2.hb) ?_
        · go_simp
        rintro r9 w2 ⟨rfl, h2⟩
        have K3 := K2.on h2
        clear K2 h2
        have K2 := K3
        clear K3
        refine ⟨_, rfl, hF _ K2, ?_⟩
        simp only [Act.put, List.setIfInBounds_toArray, List.set_cons_zero, List.set_cons_succ]
        repeat (first | (refine Plan.take ?_ (by rfl) ?_ ?_; rotate_left; (· rintro w9 ⟨u0, u1, u2, u3, u4, u5, u6⟩; go_simp; (try rw [if_neg (by omega)]); all_goals (with_reducible rfl)); simp only [Act.put, List.setIfInBounds_toArray, List.set_cons_zero, List.set_cons_succ]) | (refine Plan.pass (by rfl) ?_; simp only [Act.put, List.setIfInBounds_toArray, List.set_cons_zero, List.set_cons_succ]))
        refine Plan.ends ?_
        clear hF
        go_wp2_with fail
        go_ret
        exact ⟨rfl, K2.hb⟩
end Go.Proofs.Ythhggiifbldaeaa.Ents
