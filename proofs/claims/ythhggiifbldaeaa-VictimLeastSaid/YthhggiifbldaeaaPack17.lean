/- Texts that belong together, part 17. -/
import Derived.Test.YthhggiifbldaeaaPack16
import Derived.OwnWalk

/- The walks of the document's own comparison of two devices that are equal. -/
namespace Go.Proofs.Ythhggiifbldaeaa
open Go.RowKit Plan ZnsMath

end Go.Proofs.Ythhggiifbldaeaa

/- The walk of the document's own Append where it is refused ahead of making room. -/
namespace Go.Proofs.Ythhggiifbldaeaa
open Go.RowKit Plan ZnsMath

/-- A struct result and two plain ones. -/
theorem results_cell_tmp2 {P : Program} {fn : Func} {p q r : Tmp} {ty : TypeId} (h : fn.results = #[.cell p ty, .tmp q, .tmp r]) (tmps : Array Value) (w : World) (g : Nat) (t : TypeId) (cs : Array Value) (fr : Nat × Nat) (d : TypeDesc)
    (hp : tmps.getD p undef = .pointer (some ⟨g, 0, none⟩)) (hg : w.heap[g]? = some (.cells cs t fr))
    (hu : P.underlying ty = some d) (hd : (match d with | .struct _ | .array _ _ => true | _ => false) = true) (hi : (P.info? ty).map (·.size) = some cs.size) :
    (results fn tmps).run P w = .ok (.tuple #[.agg cs, tmps.getD q undef, tmps.getD r undef]) w := by
  have hp' : tmps[p]?.getD undef = .pointer (some ⟨g, 0, none⟩) := by simpa using hp
  simp [results, h, hp', asAddr, run_loadVar_row w g t ty cs fr d hg hu hd hi]
/-- what Append leaves -/
def AppPost (w : World) (F : Nat → Prop) (len : Nat) (D : Dev) (at' E : Int) (e : Ending) (w' : World) : Prop :=
  ∃ a cap, e = .returned (.tuple #[devV D a len cap, .int .i64 at', .int .i64 E]) ∧ ZonesIn w' (Plus F w.heap.size) a len cap D.zones ∧ Below w.heap.size w w'
end Go.Proofs.Ythhggiifbldaeaa

/- The walk of the document's own New. -/
namespace Go.Proofs.Ythhggiifbldaeaa
open Go.RowKit Plan ZnsMath

theorem made_cell (n j : Nat) (hj : j < n * 3) : (madeCells #[.int .i64 0, .int .i64 0, .slice none 0 0] (n * 3)).toList[j]? = some ((#[.int .i64 0, .int .i64 0, .slice none 0 0] : Array Value)[j % 3]!) := by
  simp [madeCells, hj]
theorem made_cells (w : World) (F : Nat → Prop) (n : Nat) : ZCells w F (madeCells #[.int .i64 0, .int .i64 0, .slice none 0 0] (n * 3)).toList (List.replicate n empty) := by
  refine ⟨by simp [size_madeCells], fun i z hi => ?_⟩
  have hi2 := (List.getElem?_eq_some_iff.1 hi).1
  rw [List.length_replicate] at hi2
  have hz : z = empty := by
    rw [List.getElem?_replicate, if_pos hi2] at hi
    exact (Option.some.inj hi).symm
  subst hz
  rw [made_cell n _ (by omega), made_cell n _ (by omega), made_cell n _ (by omega)]
  rw [show i * 3 % 3 = 0 by omega, show (i * 3 + 1) % 3 = 1 by omega, show (i * 3 + 2) % 3 = 2 by omega]
  exact ⟨rfl, rfl, none, 0, 0, rfl, empty_in w F⟩
set_option maxHeartbeats 1000000 in
theorem refNew_config (zones size op act : Int) (w : World) (h : zones < 1 ∨ 32 < zones) :
    Calls Try.prog 16 #[.int .i64 zones, .int .i64 size, .int .i64 op, .int .i64 act] w (DevPost w (fun _ => False) 0 zero 11) := by
  unfold DevPost
  have h' : zones < 1 ∨ (¬ zones < 1 ∧ 32 < zones) := by omega
  clear h
  rcases h' with h | ⟨h, h2⟩
  all_goals
    go_enter Try.func16, Try.ntmps16
    go_wp2
    exact bodyPost_ret (Plan.results_cell_tmp (p := 8) (q := 9) rfl _ _ _ _ _ _ _ rfl (heap_alloc_new _ _) Try.underlying29 rfl dev_info) rfl ⟨none, 0, rfl, .inl ⟨rfl, rfl, rfl, rfl⟩, (Below.refl _ _).alloc (Nat.le_refl _) _⟩
theorem new_zones {w : World} {B H n : Nat} (h : w.ownsRow B 69 3 (.slice (some ⟨H, 0, none⟩) n n) n (madeCells #[.int .i64 0, .int .i64 0, .slice none 0 0] (n * 3)).toList) : ZonesIn w (fun b => H ≤ b) (some ⟨H, 0, none⟩) n n (List.replicate n empty) := by
  obtain ⟨-, a, c, e, h⟩ := owns_zones (F := fun b => H ≤ b) h (made_cells w _ n) (fun b e => Nat.le_of_eq (Option.some.inj (show some H = some b from e)))
  cases e
  exact h
set_option maxHeartbeats 1000000 in
set_option maxRecDepth 20000 in
theorem refNew_made (n : Nat) (size op act : Int) (w : World) (h1 : 1 ≤ n) (h2 : n ≤ 32) :
    Calls Try.prog 16 #[.int .i64 (n : Int), .int .i64 size, .int .i64 op, .int .i64 act] w
      (DevPost w (fun _ => False) (if newE n size op act = 0 then n else 0) (newR n size op act) (newE n size op act)) := by
  obtain ⟨i1, hi1, hy0, hy1, hy2⟩ := info_parts zone_info6
  have hl1 : ¬ (n : Int) < 1 := by omega
  have hl2 : ¬ 32 < (n : Int) := by omega
  have hE : newE n size op act = checkE (newD n size op act) := by
    unfold newE
    rw [if_neg (by omega)]
  have hck := fun a cap W (h : IsZones W a n cap (newD n size op act).zones) => refCheck05_any (newD n size op act) a n cap W h
  have hnz : (newD n size op act).zones = List.replicate n empty := by simp [newD]
  rw [hnz] at hck
  have hck2 : ∀ a cap W, IsZones W a n cap (List.replicate n empty) → Calls Try.prog 36 #[.agg #[.int .i64 size, .int .i64 op, .int .i64 act, .slice a n cap]] W fun e w' => e = .returned (.int .i64 (newE n size op act)) ∧ Below W.heap.size W w' := by
    rw [hE]
    exact hck
  have hR : newR n size op act = if newE n size op act = 0 then ⟨size, op, act, List.replicate n empty⟩ else zero := by
    unfold newR
    simp [newD]
  rw [hR]
  unfold DevPost
  generalize newE n size op act = E at *
  have HC := Lib.hid hck2
  clear hck hck2 hnz hE hR
  by_cases h0 : E = 0
  · subst h0
    rw [if_pos rfl, if_pos rfl]
    go_enter Try.func16, Try.ntmps16
    go_wp2_with (first
      | (at_make; refine wpList_make_full _ rfl _ _ 27 rfl (w.heap.size + 1) 69 i1 _ 3 Try.underlying27 hi1 hy0 hy1 .i64 .i64 (n : Int) (n : Int) n rfl rfl rfl rfl (by rw [hy2]; omega) (by unfold maxLen; omega) (by simp) ?_; intro w1 hown1 hgrow1; simp only [World.size_alloc] at hown1; have b1 := ((Below.refl w.heap.size w).alloc (Nat.le_refl _) (devRow 0 0 0 none 0 0)).grown hgrow1 (by simp) (fun k hk => by cases hk); have hr1 := (hgrow1.block w.heap.size (by simp) (by simp)).trans (heap_alloc_new w (devRow 0 0 0 none 0 0)); have hz1 := new_zones hown1; have hz2 := hz1.on (Agree.below ((Below.refl w1.heap.size w1).alloc (Nat.le_refl _) (devRow size op act (some ⟨w.heap.size + 1, 0, none⟩) n n))); have hr2 := row_al hr1 (devRow size op act (some ⟨w.heap.size + 1, 0, none⟩) n n); have hx2 := heap_alloc_new w1 (devRow size op act (some ⟨w.heap.size + 1, 0, none⟩) n n); have b2 := b1.alloc b1.size (devRow size op act (some ⟨w.heap.size + 1, 0, none⟩) n n))
      | (go_at_call 36; ((with_reducible refine (HC.out _ _ _ hz2.is).mono ?_); rintro e w3 ⟨rfl, hb3⟩; have hr3 := row_on hb3 hr2 (lt_of_block hr2); have hx3 := row_on hb3 hx2 (lt_of_block hx2); obtain ⟨y3, d0, d1, d2, d3⟩ := row4 hx3; have b3 := b2.trans (hb3.mono b2.size)))
      | ((with_reducible refine Plan.store_lit 29 (.tmp 8) _ w.heap.size ?_ hr3 ?_ ?_ ?_ ?_ ?_ ?_); rotate_left; (· rfl); (· rfl); (· exact dev_info); (· rfl); (· simp [Value.oneCell']); simp only [Act.put]))
    have hz4 := (hz2.on (Agree.below hb3)).on (Agree.row (by show ¬ w.heap.size + 1 ≤ w.heap.size; omega : ¬ (fun b => w.heap.size + 1 ≤ b) w.heap.size) #[.int .i64 size, .int .i64 op, .int .i64 act, .slice (some ⟨w.heap.size + 1, 0, none⟩) n n])
    refine bodyPost_ret (Plan.results_cell_tmp (p := 8) (q := 9) rfl _ _ _ _ _ _ _ rfl (setRow_heap _ _ _ _ _ _ hr3) Try.underlying29 rfl dev_info) rfl ⟨_, _, rfl, hz4.mono (fun b _ hb => .inr (Nat.le_of_succ_le hb)), below_setRow b3 (Nat.le_refl _) _⟩
  · rw [if_neg h0, if_neg h0]
    have hE1 : (E != 0) = true := by simp [h0]
    go_enter Try.func16, Try.ntmps16
    go_wp2_with (first
      | (at_make; refine wpList_make_full _ rfl _ _ 27 rfl (w.heap.size + 1) 69 i1 _ 3 Try.underlying27 hi1 hy0 hy1 .i64 .i64 (n : Int) (n : Int) n rfl rfl rfl rfl (by rw [hy2]; omega) (by unfold maxLen; omega) (by simp) ?_; intro w1 hown1 hgrow1; simp only [World.size_alloc] at hown1; have b1 := ((Below.refl w.heap.size w).alloc (Nat.le_refl _) (devRow 0 0 0 none 0 0)).grown hgrow1 (by simp) (fun k hk => by cases hk); have hr1 := (hgrow1.block w.heap.size (by simp) (by simp)).trans (heap_alloc_new w (devRow 0 0 0 none 0 0)); have hz1 := new_zones hown1; have hz2 := hz1.on (Agree.below ((Below.refl w1.heap.size w1).alloc (Nat.le_refl _) (devRow size op act (some ⟨w.heap.size + 1, 0, none⟩) n n))); have hr2 := row_al hr1 (devRow size op act (some ⟨w.heap.size + 1, 0, none⟩) n n); have hx2 := heap_alloc_new w1 (devRow size op act (some ⟨w.heap.size + 1, 0, none⟩) n n); have b2 := b1.alloc b1.size (devRow size op act (some ⟨w.heap.size + 1, 0, none⟩) n n))
      | (go_at_call 36; ((with_reducible refine (HC.out _ _ _ hz2.is).mono ?_); rintro e w3 ⟨rfl, hb3⟩; have hr3 := row_on hb3 hr2 (lt_of_block hr2); have hx3 := row_on hb3 hx2 (lt_of_block hx2); obtain ⟨y3, d0, d1, d2, d3⟩ := row4 hx3; have b3 := b2.trans (hb3.mono b2.size)))
      | ((with_reducible refine Plan.store_lit 29 (.tmp 8) _ w.heap.size ?_ hr3 ?_ ?_ ?_ ?_ ?_ ?_); rotate_left; (· rfl); (· rfl); (· exact dev_info); (· rfl); (· simp [Value.oneCell']); simp only [Act.put]))
    refine bodyPost_ret (Plan.results_cell_tmp (p := 8) (q := 9) rfl _ _ _ _ _ _ _ rfl (setRow_heap _ _ _ _ _ _ hr3) Try.underlying29 rfl dev_info) rfl ⟨none, 0, rfl, .inl ⟨rfl, rfl, rfl, rfl⟩, below_setRow b3 (Nat.le_refl _) _⟩
end Go.Proofs.Ythhggiifbldaeaa

/- The document's New of devices, with the list of its zones as the caller's own. -/
namespace Go.Proofs.Ythhggiifbldaeaa
open Go.RowKit Plan ZnsMath
/-- a new device whose zones lie in a list of the caller's own -/
def DevOwn (w : World) (n : Nat) (size op act : Int) (r : Ending) (w' : World) : Prop :=
  ∃ g, r = .returned (.tuple #[.agg #[.int .i64 size, .int .i64 op, .int .i64 act, .slice (some ⟨g, 0, none⟩) n n], .int .i64 0]) ∧ w'.ownsRow w.heap.size 69 3 (.slice (some ⟨g, 0, none⟩) n n) n (madeCells #[.int .i64 0, .int .i64 0, .slice none 0 0] (n * 3)).toList ∧ Below w.heap.size w w'
set_option maxHeartbeats 1000000 in
set_option maxRecDepth 20000 in
theorem refNew_own (n : Nat) (size op act : Int) (w : World) (h1 : 1 ≤ n) (h2 : n ≤ 32) (hE : newE n size op act = 0) :
    Calls Try.prog 16 #[.int .i64 (n : Int), .int .i64 size, .int .i64 op, .int .i64 act] w (DevOwn w n size op act) := by
  obtain ⟨i1, hi1, hy0, hy1, hy2⟩ := info_parts zone_info6
  have hl1 : ¬ (n : Int) < 1 := by omega
  have hl2 : ¬ 32 < (n : Int) := by omega
  have hE2 : newE n size op act = checkE (newD n size op act) := by
    unfold newE
    rw [if_neg (by omega)]
  have hck := fun a cap W (h : IsZones W a n cap (newD n size op act).zones) => refCheck05_any (newD n size op act) a n cap W h
  have hnz : (newD n size op act).zones = List.replicate n empty := by simp [newD]
  rw [hnz] at hck
  have hck2 : ∀ a cap W, IsZones W a n cap (List.replicate n empty) → Calls Try.prog 36 #[.agg #[.int .i64 size, .int .i64 op, .int .i64 act, .slice a n cap]] W fun e w' => e = .returned (.int .i64 0) ∧ Below W.heap.size W w' := by
    rw [← hE, hE2]
    exact hck
  have HC := Lib.hid hck2
  clear hck hck2 hnz hE hE2
  go_enter Try.func16, Try.ntmps16
  go_wp2_with (first
    | (at_make; refine wpList_make_full _ rfl _ _ 27 rfl (w.heap.size + 1) 69 i1 _ 3 Try.underlying27 hi1 hy0 hy1 .i64 .i64 (n : Int) (n : Int) n rfl rfl rfl rfl (by rw [hy2]; omega) (by unfold maxLen; omega) (by simp) ?_; intro w1 hown1 hgrow1; simp only [World.size_alloc] at hown1; have b1 := ((Below.refl w.heap.size w).alloc (Nat.le_refl _) (devRow 0 0 0 none 0 0)).grown hgrow1 (by simp) (fun k hk => by cases hk); have hr1 := (hgrow1.block w.heap.size (by simp) (by simp)).trans (heap_alloc_new w (devRow 0 0 0 none 0 0)); have hz1 := new_zones hown1; have ow1 := Ents.e_owns_on hown1 ((Below.refl w1.heap.size w1).alloc (Nat.le_refl _) (devRow size op act (some ⟨w.heap.size + 1, 0, none⟩) n n)); clear hown1; have hz2 := hz1.on (Agree.below ((Below.refl w1.heap.size w1).alloc (Nat.le_refl _) (devRow size op act (some ⟨w.heap.size + 1, 0, none⟩) n n))); have hr2 := row_al hr1 (devRow size op act (some ⟨w.heap.size + 1, 0, none⟩) n n); have hx2 := heap_alloc_new w1 (devRow size op act (some ⟨w.heap.size + 1, 0, none⟩) n n); have b2 := b1.alloc b1.size (devRow size op act (some ⟨w.heap.size + 1, 0, none⟩) n n))
    | (go_at_call 36; ((with_reducible refine (HC.out _ _ _ hz2.is).mono ?_); rintro e w3 ⟨rfl, hb3⟩; have hr3 := row_on hb3 hr2 (lt_of_block hr2); have hx3 := row_on hb3 hx2 (lt_of_block hx2); obtain ⟨y3, d0, d1, d2, d3⟩ := row4 hx3; have b3 := b2.trans (hb3.mono b2.size); have ow3 := Ents.e_owns_on ow1 hb3))
    | ((with_reducible refine Plan.store_lit 29 (.tmp 8) _ w.heap.size ?_ hr3 ?_ ?_ ?_ ?_ ?_ ?_); rotate_left; (· rfl); (· rfl); (· exact dev_info); (· rfl); (· simp [Value.oneCell']); simp only [Act.put]))
  have ow4 : (w3.setRow w.heap.size #[.int .i64 size, .int .i64 op, .int .i64 act, .slice (some ⟨w.heap.size + 1, 0, none⟩) n n]).ownsRow (w.heap.size + 1) 69 3 (.slice (some ⟨w.heap.size + 1, 0, none⟩) n n) n (madeCells #[.int .i64 0, .int .i64 0, .slice none 0 0] (n * 3)).toList := by
    refine ⟨ow3.1, ?_⟩
    rcases ow3.2 with ⟨e1, _⟩ | ⟨g, cap, cur, e1, e2, e3, e4⟩
    · cases e1
    · cases e1
      exact .inr ⟨_, _, cur, rfl, e2, (setRow_other _ _ _ _ (by omega)).trans e3, e4⟩
  refine bodyPost_ret (Plan.results_cell_tmp (p := 8) (q := 9) rfl _ _ _ _ _ _ _ rfl (setRow_heap _ _ _ _ _ _ hr3) Try.underlying29 rfl dev_info) rfl ⟨w.heap.size + 1, rfl, ⟨ow4.1, ?_⟩, below_setRow b3 (Nat.le_refl _) _⟩
  rcases ow4.2 with ⟨e1, _⟩ | ⟨g, cap, cur, e1, e2, e3⟩
  · cases e1
  · exact .inr ⟨g, cap, cur, e1, by omega, e3⟩
end Go.Proofs.Ythhggiifbldaeaa

/- What a state holds for the choice of victims, in memory. -/
namespace Go.Proofs.Ythhggiifbldaeaa.Ents
open Go.RowKit Plan ZnsMath EntMath CntMath EpoMath LayMath VicMath
structure VList (w : World) (F : Nat → Prop) (S : Sv) (Z : List Zone) (C : Cnt) (E : Epo) : Prop where
  z : ZonesIn w F S.zA S.zN S.zC Z
  c : CList w F S.lA S.lN S.lC S.pA S.pN S.pC C
  e : PList w F S.eg S.iA S.iN S.iC S.rA S.rN S.rC E
section
variable {w w' : World} {F G : Nat → Prop} {S : Sv} {Z : List Zone} {C : Cnt} {E : Epo}
theorem VList.on (l : VList w F S Z C E) (hw : Same F w w') : VList w' F S Z C E := ⟨l.z.on hw, l.c.on hw, l.e.on hw⟩
theorem VList.mono (l : VList w F S Z C E) (hFG : ∀ b, b < w.heap.size → F b → G b) : VList w G S Z C E := ⟨l.z.mono hFG, l.c.mono hFG, l.e.mono hFG⟩
theorem VList.cut (l : VList w F S Z C E) : VList w (fun b => F b ∧ b < w.heap.size) S Z C E := l.mono fun _ hb hf => ⟨hf, hb⟩
theorem VList.low (l : VList w F S Z C E) : VList w (fun b => b < w.heap.size) S Z C E := l.mono fun _ hb _ => hb
theorem VList.same (l : VList w F S Z C E) (hb : Below w.heap.size w w') : VList w' (fun b => b < w.heap.size) S Z C E := l.low.on (Same.low hb)
theorem VList.zone (l : VList w F S Z C E) {i : Nat} (hi : i < S.zN) : ∃ x y sa sl sc, S.zA = some x ∧ Z[i]? = some y ∧ w.cell? (x.add (i * 3)) = some (.int .i64 y.state) ∧ w.cell? ⟨(x.add (i * 3)).block, (x.add (i * 3)).off + 2, none⟩ = some (.slice sa sl sc) ∧ sl = y.sectors.length := by
  obtain ⟨x, y, sa, sl, sc, h1, h2, ⟨h3, _, h5⟩, h6⟩ := l.z.zone i hi
  refine ⟨x, y, sa, sl, sc, h1, h2, h3, h5, ?_⟩
  rcases h6.1 with ⟨_, h7, _, h8⟩ | ⟨_, _, _, _, h9, _⟩
  · rw [h7, h8]; rfl
  · exact h9.symm
theorem VList.zlen (l : VList w F S Z C E) : Z.length = S.zN := l.z.is.length
end
/-- where a walk with a box of a state stands -/
structure SBox (w W : World) (S : Sv) : Prop where
  hs : W.heap[w.heap.size]? = some (stRow S)
  hb : Below w.heap.size w W
theorem SBox.start (w : World) (S : Sv) : SBox w (w.alloc (stRow S)) S := ⟨heap_alloc_new _ _, (Below.refl _ _).alloc (Nat.le_refl _) _⟩
theorem SBox.on {w W W' : World} {S : Sv} (K : SBox w W S) (h : Below W.heap.size W W') : SBox w W' S := ⟨e_on h K.hs (e_lt K.hs), K.hb.trans (h.mono K.hb.size)⟩
theorem SBox.drew {w W : World} {S : Sv} (K : SBox w W S) : SBox w W.drew S := K.on (Below.refl _ _).drew
/-- the numbers of a configuration of which some zone is a data zone -/
theorem data_bounds {z s b q d h n : Int} (hn : isN z s b q d h n = true) : 0 ≤ n ∧ n < z ∧ z ≤ 32 ∧ 3 ≤ s ∧ s ≤ 64 := by
  by_cases he : errN z s b q d h = 0
  · rw [isN_yes he, Bool.and_eq_true, decide_eq_true_eq, decide_eq_true_eq] at hn
    obtain ⟨h1, h2, h3, h4, h5, h6, _⟩ := inR_iff.1 (errN_zero he).1
    have := (slot_bounds h1 h2 h5 h6).1
    omega
  · rw [isN_no he] at hn
    cases hn
end Go.Proofs.Ythhggiifbldaeaa.Ents

/- A state in the making: lists of zones and counters of the caller's own, epochs and sectors that lie elsewhere. -/
namespace Go.Proofs.Ythhggiifbldaeaa.Ents
open Go.RowKit Plan ZnsMath EntMath CntMath EpoMath LayMath VicMath
abbrev slV (a : Option Addr) (n c : Nat) : Value := .slice a n c
/-- the blocks behind dice that are neither boxes nor a list of the making's own -/
def Fr (q : Nat) (bx : List Nat) (S : Sv) (b : Nat) : Prop := q < b ∧ b ∉ bx ∧ (slV S.zA S.zN S.zC).ownBlock ≠ some b ∧ (slV S.lA S.lN S.lC).ownBlock ≠ some b ∧ (slV S.pA S.pN S.pC).ownBlock ≠ some b
structure MkL (W : World) (q : Nat) (bx : List Nat) (S : Sv) (Z : List Zone) (C : Cnt) (E : Epo) (CV : List Value) : Prop where
  zo : W.ownsRow (q + 1) 69 3 (slV S.zA S.zN S.zC) S.zN CV
  zc : ZCells W (Fr q bx S) CV Z
  lo : W.ownsRow (q + 1) 3 1 (slV S.lA S.lN S.lC) S.lN (intC C.live)
  po : W.ownsRow (q + 1) 3 1 (slV S.pA S.pN S.pC) S.pN (intC C.pend)
  eo : PList W (Fr q bx S) S.eg S.iA S.iN S.iC S.rA S.rN S.rC E
  ne : ∀ b, (slV S.lA S.lN S.lC).ownBlock = some b → (slV S.pA S.pN S.pC).ownBlock ≠ some b
  nb : ∀ b ∈ bx, (slV S.zA S.zN S.zC).ownBlock ≠ some b ∧ (slV S.lA S.lN S.lC).ownBlock ≠ some b ∧ (slV S.pA S.pN S.pC).ownBlock ≠ some b
section
variable {W W' : World} {q : Nat} {bx : List Nat} {S : Sv} {Z : List Zone} {C : Cnt} {E : Epo} {CV : List Value}
theorem mk_same {F : Nat → Prop} {o : Option Nat} (h : W.grownBy W' o) (ho : ∀ z, o = some z → ¬ F z) : Same F W W' := ⟨h.size, fun b hb hlt => h.block b hlt (fun e => ho b e.symm hb)⟩
theorem mk_kept {B sz n : Nat} {t : TypeId} {v : Value} {xs : List Value} {o : Option Nat} (h : W.ownsRow B t sz v n xs) (hg : W.grownBy W' o) (hne : ∀ z, o = some z → v.ownBlock ≠ some z) : W'.ownsRow B t sz v n xs := by
  refine h.kept hg ?_
  cases hv : v.ownBlock with
  | none => exact .inl rfl
  | some b => exact .inr fun e => hne b e.symm hv
/-- a step that touches the dice, or a box, or nothing that was there -/
theorem MkL.touch {o : Option Nat} (M : MkL W q bx S Z C E CV) (h : W.grownBy W' o) (ho : ∀ z, o = some z → z ≤ q ∨ z ∈ bx) : MkL W' q bx S Z C E CV := by
  have hf : ∀ z, o = some z → ¬ Fr q bx S z := fun z hz hF => by
    rcases ho z hz with h1 | h1
    · have := hF.1; omega
    · exact hF.2.1 h1
  have hb : ∀ (v : Value) (B' sz n : Nat) (t : TypeId) xs, W.ownsRow (q + 1) t sz v n xs → (∀ b ∈ bx, v.ownBlock ≠ some b) → ∀ z, o = some z → v.ownBlock ≠ some z := fun v B' sz n t xs hv hnb z hz e => by
    rcases ho z hz with h1 | h1
    · have := (hv.lt z e).1; omega
    · exact hnb z h1 e
  have hs := mk_same h hf
  exact ⟨mk_kept M.zo h (hb _ 0 _ _ _ _ M.zo fun b hb => (M.nb b hb).1), M.zc.on hs, mk_kept M.lo h (hb _ 0 _ _ _ _ M.lo fun b hb => (M.nb b hb).2.1), mk_kept M.po h (hb _ 0 _ _ _ _ M.po fun b hb => (M.nb b hb).2.2), M.eo.on hs, M.ne, M.nb⟩
theorem below_grown (h : Below W.heap.size W W') : W.grownBy W' none := ⟨h.os, h.tape, h.output, h.size, fun k hk _ => h.block k hk⟩
theorem MkL.on (M : MkL W q bx S Z C E CV) (h : Below W.heap.size W W') : MkL W' q bx S Z C E CV := M.touch (below_grown h) (fun z hz => by cases hz)
theorem MkL.box (M : MkL W q bx S Z C E CV) {x : Nat} (hx : x ∈ bx) (cs : Array Value) : MkL (W.setRow x cs) q bx S Z C E CV := M.touch (bxd_row W x cs) (fun z hz => .inr (by obtain rfl := Option.some.inj hz; exact hx))
/-- a box more -/
theorem MkL.more (M : MkL W q bx S Z C E CV) {x : Nat} (hx : W.heap.size ≤ x) : MkL W q (x :: bx) S Z C E CV := by
  have hF : ∀ b, b < W.heap.size → Fr q bx S b → Fr q (x :: bx) S b := fun b hb h => ⟨h.1, fun hm => by
    rcases List.mem_cons.1 hm with rfl | hm
    · omega
    · exact h.2.1 hm, h.2.2⟩
  refine ⟨M.zo, ⟨M.zc.1, fun i z hi => ?_⟩, M.lo, M.po, M.eo.mono hF, M.ne, fun b hb => ?_⟩
  · obtain ⟨c1, c2, sa, sl, sc, c3, hs⟩ := M.zc.2 i z hi
    exact ⟨c1, c2, sa, sl, sc, c3, hs.mono hF⟩
  · rcases List.mem_cons.1 hb with rfl | hb
    · exact ⟨fun e => by have := (M.zo.lt _ e).2; omega, fun e => by have := (M.lo.lt _ e).2; omega, fun e => by have := (M.po.lt _ e).2; omega⟩
    · exact M.nb b hb
/-- a box less -/
theorem MkL.less {x : Nat} (M : MkL W q (x :: bx) S Z C E CV) : MkL W q bx S Z C E CV := by
  have hF : ∀ b, b < W.heap.size → Fr q (x :: bx) S b → Fr q bx S b := fun b _ h => ⟨h.1, fun hm => h.2.1 (List.mem_cons_of_mem _ hm), h.2.2⟩
  refine ⟨M.zo, ⟨M.zc.1, fun i z hi => ?_⟩, M.lo, M.po, M.eo.mono hF, M.ne, fun b hb => M.nb b (List.mem_cons_of_mem _ hb)⟩
  obtain ⟨c1, c2, sa, sl, sc, c3, hs⟩ := M.zc.2 i z hi
  exact ⟨c1, c2, sa, sl, sc, c3, hs.mono hF⟩
/-- a counter of live records more -/
theorem MkL.live (M : MkL W q bx S Z C E CV) {a : Option Addr} {n c : Nat} {L : List Int} (hbx : ∀ b ∈ bx, b < W.heap.size) (hg : W.grownBy W' (slV S.lA S.lN S.lC).ownBlock) (hown : W'.ownsRow (q + 1) 3 1 (slV a n c) n (intC L))
    (hat : ∀ b, (slV a n c).ownBlock = some b → (slV S.lA S.lN S.lC).ownBlock = some b ∨ b = W.heap.size) : MkL W' q bx { S with lA := a, lN := n, lC := c } Z { C with live := L } E CV := by
  have hF : ∀ b, b < W.heap.size → Fr q bx S b → Fr q bx { S with lA := a, lN := n, lC := c } b := fun b hb h => ⟨h.1, h.2.1, h.2.2.1, fun e => by
    rcases hat b e with h1 | h1
    · exact h.2.2.2.1 h1
    · omega, h.2.2.2.2⟩
  have hs' : Same (fun b => Fr q bx S b ∧ b < W.heap.size) W W' := mk_same hg fun z hz h => h.1.2.2.2.1 hz
  refine ⟨mk_kept M.zo hg fun z hz e => ?_, ⟨M.zc.1, fun i z hi => ?_⟩, hown, mk_kept M.po hg fun z hz e => M.ne z hz e, (M.eo.cut.on hs').mono (fun b _ h => hF b h.2 h.1), fun b hb e => ?_, fun b hb => ⟨(M.nb b hb).1, fun e => ?_, (M.nb b hb).2.2⟩⟩
  · rcases owns_ne M.zo M.lo (by decide) with h1 | h1
    · rw [h1] at e; cases e
    · exact h1 (e.trans hz.symm)
  · obtain ⟨c1, c2, sa, sl, sc, c3, hst⟩ := M.zc.2 i z hi
    exact ⟨c1, c2, sa, sl, sc, c3, ((hst.mono (G := fun b => Fr q bx S b ∧ b < W.heap.size) (fun b hb h => ⟨h, hb⟩)).on hs').mono (fun b _ h => hF b h.2 h.1)⟩
  · rcases hat b hb with h1 | h1
    · exact M.ne b h1 e
    · have := (M.po.lt b e).2; omega
  · rcases hat b e with h1 | h1
    · exact (M.nb b hb).2.1 h1
    · have := hbx b hb; omega
/-- a counter of pending appends more -/
theorem MkL.pend (M : MkL W q bx S Z C E CV) {a : Option Addr} {n c : Nat} {L : List Int} (hbx : ∀ b ∈ bx, b < W.heap.size) (hg : W.grownBy W' (slV S.pA S.pN S.pC).ownBlock) (hown : W'.ownsRow (q + 1) 3 1 (slV a n c) n (intC L))
    (hat : ∀ b, (slV a n c).ownBlock = some b → (slV S.pA S.pN S.pC).ownBlock = some b ∨ b = W.heap.size) : MkL W' q bx { S with pA := a, pN := n, pC := c } Z { C with pend := L } E CV := by
  have hF : ∀ b, b < W.heap.size → Fr q bx S b → Fr q bx { S with pA := a, pN := n, pC := c } b := fun b hb h => ⟨h.1, h.2.1, h.2.2.1, h.2.2.2.1, fun e => by
    rcases hat b e with h1 | h1
    · exact h.2.2.2.2 h1
    · omega⟩
  have hs' : Same (fun b => Fr q bx S b ∧ b < W.heap.size) W W' := mk_same hg fun z hz h => h.1.2.2.2.2 hz
  refine ⟨mk_kept M.zo hg fun z hz e => ?_, ⟨M.zc.1, fun i z hi => ?_⟩, mk_kept M.lo hg fun z hz e => M.ne z e hz, hown, (M.eo.cut.on hs').mono (fun b _ h => hF b h.2 h.1), fun b hb e => ?_, fun b hb => ⟨(M.nb b hb).1, (M.nb b hb).2.1, fun e => ?_⟩⟩
  · rcases owns_ne M.zo M.po (by decide) with h1 | h1
    · rw [h1] at e; cases e
    · exact h1 (e.trans hz.symm)
  · obtain ⟨c1, c2, sa, sl, sc, c3, hst⟩ := M.zc.2 i z hi
    exact ⟨c1, c2, sa, sl, sc, c3, ((hst.mono (G := fun b => Fr q bx S b ∧ b < W.heap.size) (fun b hb h => ⟨h, hb⟩)).on hs').mono (fun b _ h => hF b h.2 h.1)⟩
  · rcases hat b e with h1 | h1
    · exact M.ne b hb h1
    · have := (M.lo.lt b hb).2; omega
  · rcases hat b e with h1 | h1
    · exact (M.nb b hb).2.2 h1
    · have := hbx b hb; omega
/-- other epochs -/
theorem MkL.epo (M : MkL W q bx S Z C E CV) {g : Int} {a b : Option Addr} {n c m d : Nat} {E' : Epo} (h : PList W (Fr q bx S) g a n c b m d E') : MkL W q bx { S with eg := g, iA := a, iN := n, iC := c, rA := b, rN := m, rC := d } Z C E' CV :=
  ⟨M.zo, M.zc, M.lo, M.po, h, M.ne, M.nb⟩
theorem cells_grown (g : Nat) : ∀ (vs : List Value) (o : Nat) (W : World), W.grownBy (W.setCells g o vs) (some g)
  | [], _, _ => ⟨rfl, rfl, rfl, Nat.le_refl _, fun _ _ _ => rfl⟩
  | v :: r, o, W => by
    have h := cells_grown g r (o + 1) (W.setCell ⟨g, o, none⟩ v)
    rw [World.setCells]
    refine ⟨h.os, h.tape, h.output, by have := h.size; rw [World.size_setCell] at this; exact this, fun k hk hne => ?_⟩
    rw [h.block k (by rw [World.size_setCell]; exact hk) hne]
    exact Below.heap_setCell W ⟨g, o, none⟩ v k (fun e => hne (by rw [e]))
/-- a zone at an index -/
theorem MkL.zone (M : MkL W q bx S Z C E CV) {g : Nat} (hg : S.zA = some ⟨g, 0, none⟩) {k : Nat} (hk : k < Z.length) (z : Zone) {sa : Option Addr} {sl sc : Nat} (hs : StrsIn W (Fr q bx S) sa sl sc z.sectors) :
    MkL (W.setCells g (k * 3) [.int .i64 z.state, .int .i64 z.durable, .slice sa sl sc]) q bx S (Z.set k z) C E (((CV.set (k * 3) (.int .i64 z.state)).set (k * 3 + 1) (.int .i64 z.durable)).set (k * 3 + 2) (.slice sa sl sc)) := by
  have hgr := cells_grown g [.int .i64 z.state, .int .i64 z.durable, .slice sa sl sc] (k * 3) W
  have hz0 : (slV S.zA S.zN S.zC).ownBlock = some g := by unfold slV; rw [hg]; rfl
  have hsm : Same (Fr q bx S) W (W.setCells g (k * 3) [.int .i64 z.state, .int .i64 z.durable, .slice sa sl sc]) := mk_same hgr fun y hy h => h.2.2.1 (by rw [hz0]; exact hy)
  have hzo := M.zo
  have hne : ∀ (v : Value) n xs, W.ownsRow (q + 1) 3 1 v n xs → ∀ y, some g = some y → v.ownBlock ≠ some y := fun v n xs h y hy e => by
    rcases owns_ne M.zo h (by decide) with h1 | h1
    · rw [hz0] at h1; cases h1
    · exact h1 (by rw [hz0, e, hy])
  have hzo2 : W.ownsRow (q + 1) 69 3 (.slice (some ⟨g, 0, none⟩) S.zN S.zC) S.zN CV := by
    have h := M.zo
    unfold slV at h
    rw [hg] at h
    exact h
  have ho := Rws.owns_spliced [.int .i64 z.state, .int .i64 z.durable, .slice sa sl sc] (k * 3) hzo2
  refine ⟨?_, (M.zc.set k hk z hs).on hsm, mk_kept M.lo hgr (hne _ _ _ M.lo), mk_kept M.po hgr (hne _ _ _ M.po), M.eo.on hsm, M.ne, M.nb⟩
  unfold slV
  rw [hg]
  exact ho
end
end Go.Proofs.Ythhggiifbldaeaa.Ents

/- The walks of the document's IsRetired of epochs and Can of victims. -/
namespace Go.Proofs.Ythhggiifbldaeaa.Ents
open Go.RowKit Plan ZnsMath EntMath CntMath EpoMath LayMath VicMath
set_option maxHeartbeats 2000000 in
set_option maxRecDepth 20000 in
theorem refIsRetired_any (F : Nat → Prop) (E : Epo) (z : Int) (g : Int) (a b : Option Addr) (n c m d : Nat) (w : World) (hl : PList w F g a n c b m d E) :
    Calls Try.prog 42 #[epoV g a n c b m d, .int .i64 z] w fun r w' => r = .returned (.bool (isRet E.zones z)) ∧ Below w.heap.size w w' := by
  have hlen := hl.z.length
  have hA := (Below.refl w.heap.size w).alloc (Nat.le_refl _) (epoRow g a n c b m d)
  have hr := heap_alloc_new w (epoRow g a n c b m d)
  have HR := Lib.hid (fun W (q : Below w.heap.size w W) => refRetired_any _ E z m g a b n c m d W (hl.same q) (Nat.le_refl _))
  rw [List.take_of_length_le (by omega)] at HR
  clear hl
  go_enter Try.func42, Try.ntmps42
  obtain ⟨c0, c1, c2⟩ := three_row hr
  generalize hw0 : w.alloc (epoRow g a n c b m d) = w0 at *
  go_wp2_with (first
    | ((with_reducible refine Plan.load_lit 39 (.tmp 2) w.heap.size ?_ hr Try.underlying39 ?_ ?_ ?_); (· rfl); (· rfl); (· exact epo_info); simp only [Act.put, List.setIfInBounds_toArray, List.set_cons_zero, List.set_cons_succ])
    | (go_at_call 40; ((with_reducible refine (HR.out _ hA).mono ?_); rintro r9 w1 ⟨rfl, h1⟩; have b1 := hA.trans (h1.mono hA.size))))
  go_ret
  exact ⟨rfl, b1⟩
set_option maxHeartbeats 16000000 in
set_option maxRecDepth 40000 in
theorem refCan_any (F : Nat → Prop) (S : Sv) (Z : List Zone) (C : Cnt) (E : Epo) (z : Int) (w : World) (hl : VList w F S Z C E) :
    Calls Try.prog 23 #[stV S, .int .i64 z] w fun r w' => r = .returned (.bool (canV (isN S.cz S.cs S.cb S.cq S.cd S.ch) Z C E.zones S.h S.k S.cs z)) ∧ Below w.heap.size w w' := by
  have K := SBox.start w S
  have HD := Lib.hid (refIsData_any S.cz S.cs S.cb S.cq S.cd S.ch z)
  have hB := @data_bounds S.cz S.cs S.cb S.cq S.cd S.ch z
  have hzl := hl.zlen
  have hll := hl.c.l.length
  have hpl := hl.c.p.length
  unfold confV at *
  generalize hDZ : isN S.cz S.cs S.cb S.cq S.cd S.ch = D at *
  cases hd : D z
  · rw [can_no (.inl hd)]
    rw [hd] at HD
    clear hl hB
    go_enter Try.func23, Try.ntmps23
    generalize hw0 : w.alloc (stRow S) = w0 at *
    obtain ⟨v9, v11, v12⟩ : w0.cell? ⟨w.heap.size, 9, none⟩ = some (.slice S.zA S.zN S.zC) ∧ w0.cell? ⟨w.heap.size, 11, none⟩ = some (.slice S.lA S.lN S.lC) ∧ w0.cell? ⟨w.heap.size, 12, none⟩ = some (.slice S.pA S.pN S.pC) := ⟨st_cell K.hs rfl, st_cell K.hs rfl, st_cell K.hs rfl⟩
    go_wp2_with (first
      | ((with_reducible refine load_mid 26 (.tmp 5) w.heap.size 0 [.int .i64 S.cz, .int .i64 S.cs, .int .i64 S.cb, .int .i64 S.cq, .int .i64 S.cd, .int .i64 S.ch] ?_ K.hs ?_ Try.underlying26 ?_ ?_ ?_); (· rfl); (· rfl); (· rfl); (· exact conf_info); simp only [Act.put, List.setIfInBounds_toArray, List.set_cons_zero, List.set_cons_succ])
      | (go_at_call 41; ((with_reducible refine (HD.out _).mono ?_); rintro r9 w1 ⟨rfl, h1⟩; have K1 := K.on h1; clear K hw0 v9 v11 v12 h1; have K := K1; clear K1; obtain ⟨v9, v11, v12⟩ : w1.cell? ⟨w.heap.size, 9, none⟩ = some (.slice S.zA S.zN S.zC) ∧ w1.cell? ⟨w.heap.size, 11, none⟩ = some (.slice S.lA S.lN S.lC) ∧ w1.cell? ⟨w.heap.size, 12, none⟩ = some (.slice S.pA S.pN S.pC) := ⟨st_cell K.hs rfl, st_cell K.hs rfl, st_cell K.hs rfl⟩)))
    go_ret
    exact ⟨rfl, K.hb⟩
  · obtain ⟨b0, b1, b2, b3, b4⟩ := hB hd
    rw [hd] at HD
    obtain ⟨i, rfl⟩ : ∃ i : Nat, z = (i : Int) := ⟨z.toNat, by omega⟩
    clear hB
    by_cases h1 : i < S.zN
    · have g1 : ¬ (S.zN : Int) ≤ (i : Int) := by omega
      by_cases h2 : i < S.lN
      · have g2 : ¬ (S.lN : Int) ≤ (i : Int) := by omega
        by_cases h3 : i < S.pN
        · have g3 : ¬ (S.pN : Int) ≤ (i : Int) := by omega
          have i1 : (i : Int) < (S.zN : Int) := by omega
          have i2 : (i : Int) < (S.lN : Int) := by omega
          have i3 : (i : Int) < (S.pN : Int) := by omega
          obtain ⟨x, y, sa, sl, sc, hxA, hy, hcy, _, _⟩ := hl.zone h1
          obtain ⟨xl, l, hlA, hlz, hcl⟩ := hl.c.l.at' i h2
          obtain ⟨xp, p, hpA, hpz, hcp⟩ := hl.c.p.at' i h3
          rw [can_at hd hy hlz hpz]
          have HZ := Lib.hid (fun W (q : Below w.heap.size w W) => (show W.cell? (x.add (i * 3)) = some (.int .i64 y.state) from (q.cell (World.block_lt_of_cell? w _ hcy)).trans hcy))
          have HL := Lib.hid (fun W (q : Below w.heap.size w W) => (show W.cell? (xl.add i) = some (.int .i64 l) from (q.cell (World.block_lt_of_cell? w _ hcl)).trans hcl))
          have HP := Lib.hid (fun W (q : Below w.heap.size w W) => (show W.cell? (xp.add i) = some (.int .i64 p) from (q.cell (World.block_lt_of_cell? w _ hcp)).trans hcp))
          have HRT := Lib.hid (fun W (q : Below w.heap.size w W) => refIsRetired_any _ E (i : Int) S.eg S.iA S.rA S.iN S.iC S.rN S.rC W (hl.e.same q))
          have hws : IntKind.i64.wrap (S.cs - 1) = S.cs - 1 := IntWalk.i64_in _ (by omega)
          unfold fitV
          obtain ⟨q1, o1⟩ : ∃ q, (y.state == (4 : Int)) = q := ⟨_, rfl⟩
          obtain ⟨q2, o2⟩ : ∃ q, (p == (0 : Int)) = q := ⟨_, rfl⟩
          obtain ⟨q3, o3⟩ : ∃ q, ((i : Int) != S.h) = q := ⟨_, rfl⟩
          obtain ⟨q4, o4⟩ : ∃ q, ((i : Int) != S.k) = q := ⟨_, rfl⟩
          obtain ⟨q6, o6⟩ : ∃ q, decide (l < S.cs - 1) = q := ⟨_, rfl⟩
          rw [show decide (y.state = 4) = q1 from o1, show decide (p = 0) = q2 from o2, show (!decide ((i : Int) = S.h)) = q3 from o3, show (!decide ((i : Int) = S.k)) = q4 from o4, o6]
          generalize hq5 : isRet E.zones (i : Int) = q5 at *
          replace hxA := Lib.hid hxA
          replace hlA := Lib.hid hlA
          replace hpA := Lib.hid hpA
          clear hl hy hlz hpz hcy hcl hcp hq5 hd h1 h2 h3
          cases q1
          · skip
            go_enter Try.func23, Try.ntmps23
            generalize hw0 : w.alloc (stRow S) = w0 at *
            obtain ⟨v9, v11, v12⟩ : w0.cell? ⟨w.heap.size, 9, none⟩ = some (.slice S.zA S.zN S.zC) ∧ w0.cell? ⟨w.heap.size, 11, none⟩ = some (.slice S.lA S.lN S.lC) ∧ w0.cell? ⟨w.heap.size, 12, none⟩ = some (.slice S.pA S.pN S.pC) := ⟨st_cell K.hs rfl, st_cell K.hs rfl, st_cell K.hs rfl⟩
            go_wp2_with (first
              | ((with_reducible refine load_mid 26 (.tmp 5) w.heap.size 0 [.int .i64 S.cz, .int .i64 S.cs, .int .i64 S.cb, .int .i64 S.cq, .int .i64 S.cd, .int .i64 S.ch] ?_ K.hs ?_ Try.underlying26 ?_ ?_ ?_); (· rfl); (· rfl); (· rfl); (· exact conf_info); simp only [Act.put, List.setIfInBounds_toArray, List.set_cons_zero, List.set_cons_succ])
              | (go_at_call 41; ((with_reducible refine (HD.out _).mono ?_); rintro r9 w1 ⟨rfl, h1⟩; have K1 := K.on h1; clear K hw0 v9 v11 v12 h1; have K := K1; clear K1; obtain ⟨v9, v11, v12⟩ : w1.cell? ⟨w.heap.size, 9, none⟩ = some (.slice S.zA S.zN S.zC) ∧ w1.cell? ⟨w.heap.size, 11, none⟩ = some (.slice S.lA S.lN S.lC) ∧ w1.cell? ⟨w.heap.size, 12, none⟩ = some (.slice S.pA S.pN S.pC) := ⟨st_cell K.hs rfl, st_cell K.hs rfl, st_cell K.hs rfl⟩)))
            have hF := fun W (k : SBox w W S) => (show W.heap[w.heap.size]? = some (stRow S) ∧ W.cell? ⟨w.heap.size, 9, none⟩ = some (.slice (some x) S.zN S.zC) ∧ W.cell? ⟨w.heap.size, 11, none⟩ = some (.slice (some xl) S.lN S.lC) ∧ W.cell? ⟨w.heap.size, 12, none⟩ = some (.slice (some xp) S.pN S.pC) ∧ W.cell? ⟨w.heap.size, 18, none⟩ = some (.int .i64 S.h) ∧ W.cell? ⟨w.heap.size, 19, none⟩ = some (.int .i64 S.k) ∧ W.cell? ⟨w.heap.size, 1, none⟩ = some (.int .i64 S.cs) ∧ W.cell? (x.add (i * 3)) = some (.int .i64 y.state) ∧ W.cell? (xl.add i) = some (.int .i64 l) ∧ W.cell? (xp.add i) = some (.int .i64 p) from ⟨k.hs, by rw [← hxA.out]; exact st_cell k.hs rfl, by rw [← hlA.out]; exact st_cell k.hs rfl, by rw [← hpA.out]; exact st_cell k.hs rfl, st_cell k.hs rfl, st_cell k.hs rfl, st_cell k.hs rfl, HZ.out W k.hb, HL.out W k.hb, HP.out W k.hb⟩)
            refine Plan.start (fun W => W.heap[w.heap.size]? = some (stRow S) ∧ W.cell? ⟨w.heap.size, 9, none⟩ = some (.slice (some x) S.zN S.zC) ∧ W.cell? ⟨w.heap.size, 11, none⟩ = some (.slice (some xl) S.lN S.lC) ∧ W.cell? ⟨w.heap.size, 12, none⟩ = some (.slice (some xp) S.pN S.pC) ∧ W.cell? ⟨w.heap.size, 18, none⟩ = some (.int .i64 S.h) ∧ W.cell? ⟨w.heap.size, 19, none⟩ = some (.int .i64 S.k) ∧ W.cell? ⟨w.heap.size, 1, none⟩ = some (.int .i64 S.cs) ∧ W.cell? (x.add (i * 3)) = some (.int .i64 y.state) ∧ W.cell? (xl.add i) = some (.int .i64 l) ∧ W.cell? (xp.add i) = some (.int .i64 p)) [(0, true), (1, true), (2, true), (3, true), (4, true), (5, true), (6, true), (7, true), (8, true), (9, true), (10, true), (11, true), (12, true), (13, true), (14, true), (15, true), (16, true), (17, true), (18, true), (19, true), (20, true), (21, true), (22, true), (23, true), (24, true), (25, true), (26, true), (27, true), (28, true), (29, true), (30, true), (31, true), (32, true), (33, true), (34, true), (35, false), (36, true), (37, true), (38, true), (39, true), (40, true), (41, true), (42, true), (43, true), (44, true), (45, true), (46, true), (47, true), (48, true), (49, true), (50, true), (51, true)] (by kernel_rfl) (by kernel_rfl) (by kernel_rfl) (by kernel_rfl) (hF _ K.drew) ?_
            simp only [List.map_cons, List.map_nil, List.getElem?_toArray, List.getElem?_cons_zero, List.getElem?_cons_succ]
            repeat (first | (refine Plan.take ?_ (by rfl) ?_ ?_; rotate_left; (· rintro w9 ⟨u0, u1, u2, u3, u4, u5, u6, u7, u8, u9⟩; go_simp; (try rw [if_neg (by omega)]); all_goals (with_reducible rfl)); simp only [Act.put, List.setIfInBounds_toArray, List.set_cons_zero, List.set_cons_succ]) | (refine Plan.pass (by rfl) ?_; simp only [Act.put, List.setIfInBounds_toArray, List.set_cons_zero, List.set_cons_succ]))
            have K2 := K.drew
            refine Plan.pass' (by rfl) (hF _ K2) ?_
            simp only [Act.put, List.setIfInBounds_toArray, List.set_cons_zero, List.set_cons_succ]
            repeat (first | (refine Plan.take ?_ (by rfl) ?_ ?_; rotate_left; (· rintro w9 ⟨u0, u1, u2, u3, u4, u5, u6, u7, u8, u9⟩; go_simp; (try rw [if_neg (by omega)]); all_goals (with_reducible rfl)); simp only [Act.put, List.setIfInBounds_toArray, List.set_cons_zero, List.set_cons_succ]) | (refine Plan.pass (by rfl) ?_; simp only [Act.put, List.setIfInBounds_toArray, List.set_cons_zero, List.set_cons_succ]))
            refine Plan.ends ?_
            clear hF
            go_wp2_with fail
            go_ret
            exact ⟨rfl, K2.hb⟩
          cases q2
          · skip
            go_enter Try.func23, Try.ntmps23
            generalize hw0 : w.alloc (stRow S) = w0 at *
            obtain ⟨v9, v11, v12⟩ : w0.cell? ⟨w.heap.size, 9, none⟩ = some (.slice S.zA S.zN S.zC) ∧ w0.cell? ⟨w.heap.size, 11, none⟩ = some (.slice S.lA S.lN S.lC) ∧ w0.cell? ⟨w.heap.size, 12, none⟩ = some (.slice S.pA S.pN S.pC) := ⟨st_cell K.hs rfl, st_cell K.hs rfl, st_cell K.hs rfl⟩
            go_wp2_with (first
              | ((with_reducible refine load_mid 26 (.tmp 5) w.heap.size 0 [.int .i64 S.cz, .int .i64 S.cs, .int .i64 S.cb, .int .i64 S.cq, .int .i64 S.cd, .int .i64 S.ch] ?_ K.hs ?_ Try.underlying26 ?_ ?_ ?_); (· rfl); (· rfl); (· rfl); (· exact conf_info); simp only [Act.put, List.setIfInBounds_toArray, List.set_cons_zero, List.set_cons_succ])
              | (go_at_call 41; ((with_reducible refine (HD.out _).mono ?_); rintro r9 w1 ⟨rfl, h1⟩; have K1 := K.on h1; clear K hw0 v9 v11 v12 h1; have K := K1; clear K1; obtain ⟨v9, v11, v12⟩ : w1.cell? ⟨w.heap.size, 9, none⟩ = some (.slice S.zA S.zN S.zC) ∧ w1.cell? ⟨w.heap.size, 11, none⟩ = some (.slice S.lA S.lN S.lC) ∧ w1.cell? ⟨w.heap.size, 12, none⟩ = some (.slice S.pA S.pN S.pC) := ⟨st_cell K.hs rfl, st_cell K.hs rfl, st_cell K.hs rfl⟩)))
            have hF := fun W (k : SBox w W S) => (show W.heap[w.heap.size]? = some (stRow S) ∧ W.cell? ⟨w.heap.size, 9, none⟩ = some (.slice (some x) S.zN S.zC) ∧ W.cell? ⟨w.heap.size, 11, none⟩ = some (.slice (some xl) S.lN S.lC) ∧ W.cell? ⟨w.heap.size, 12, none⟩ = some (.slice (some xp) S.pN S.pC) ∧ W.cell? ⟨w.heap.size, 18, none⟩ = some (.int .i64 S.h) ∧ W.cell? ⟨w.heap.size, 19, none⟩ = some (.int .i64 S.k) ∧ W.cell? ⟨w.heap.size, 1, none⟩ = some (.int .i64 S.cs) ∧ W.cell? (x.add (i * 3)) = some (.int .i64 y.state) ∧ W.cell? (xl.add i) = some (.int .i64 l) ∧ W.cell? (xp.add i) = some (.int .i64 p) from ⟨k.hs, by rw [← hxA.out]; exact st_cell k.hs rfl, by rw [← hlA.out]; exact st_cell k.hs rfl, by rw [← hpA.out]; exact st_cell k.hs rfl, st_cell k.hs rfl, st_cell k.hs rfl, st_cell k.hs rfl, HZ.out W k.hb, HL.out W k.hb, HP.out W k.hb⟩)
            refine Plan.start (fun W => W.heap[w.heap.size]? = some (stRow S) ∧ W.cell? ⟨w.heap.size, 9, none⟩ = some (.slice (some x) S.zN S.zC) ∧ W.cell? ⟨w.heap.size, 11, none⟩ = some (.slice (some xl) S.lN S.lC) ∧ W.cell? ⟨w.heap.size, 12, none⟩ = some (.slice (some xp) S.pN S.pC) ∧ W.cell? ⟨w.heap.size, 18, none⟩ = some (.int .i64 S.h) ∧ W.cell? ⟨w.heap.size, 19, none⟩ = some (.int .i64 S.k) ∧ W.cell? ⟨w.heap.size, 1, none⟩ = some (.int .i64 S.cs) ∧ W.cell? (x.add (i * 3)) = some (.int .i64 y.state) ∧ W.cell? (xl.add i) = some (.int .i64 l) ∧ W.cell? (xp.add i) = some (.int .i64 p)) [(0, true), (1, true), (2, true), (3, true), (4, true), (5, true), (6, true), (7, true), (8, true), (9, true), (10, true), (11, true), (12, true), (13, true), (14, true), (15, true), (16, true), (17, true), (18, true), (19, true), (20, true), (21, true), (22, true), (23, true), (24, true), (25, true), (26, true), (27, true), (28, true), (29, true), (30, true), (31, true), (32, true), (33, true), (34, true), (35, false), (36, true), (37, true), (38, true), (39, true), (40, true), (41, true), (42, true), (43, true), (44, true), (45, true), (46, true), (47, true), (48, true), (49, true), (50, true), (51, true)] (by kernel_rfl) (by kernel_rfl) (by kernel_rfl) (by kernel_rfl) (hF _ K.drew) ?_
            simp only [List.map_cons, List.map_nil, List.getElem?_toArray, List.getElem?_cons_zero, List.getElem?_cons_succ]
            repeat (first | (refine Plan.take ?_ (by rfl) ?_ ?_; rotate_left; (· rintro w9 ⟨u0, u1, u2, u3, u4, u5, u6, u7, u8, u9⟩; go_simp; (try rw [if_neg (by omega)]); all_goals (with_reducible rfl)); simp only [Act.put, List.setIfInBounds_toArray, List.set_cons_zero, List.set_cons_succ]) | (refine Plan.pass (by rfl) ?_; simp only [Act.put, List.setIfInBounds_toArray, List.set_cons_zero, List.set_cons_succ]))
            have K2 := K.drew
            refine Plan.pass' (by rfl) (hF _ K2) ?_
            simp only [Act.put, List.setIfInBounds_toArray, List.set_cons_zero, List.set_cons_succ]
            repeat (first | (refine Plan.take ?_ (by rfl) ?_ ?_; rotate_left; (· rintro w9 ⟨u0, u1, u2, u3, u4, u5, u6, u7, u8, u9⟩; go_simp; (try rw [if_neg (by omega)]); all_goals (with_reducible rfl)); simp only [Act.put, List.setIfInBounds_toArray, List.set_cons_zero, List.set_cons_succ]) | (refine Plan.pass (by rfl) ?_; simp only [Act.put, List.setIfInBounds_toArray, List.set_cons_zero, List.set_cons_succ]))
            refine Plan.ends ?_
            clear hF
            go_wp2_with fail
            go_ret
            exact ⟨rfl, K2.hb⟩
          cases q3
          · skip
            go_enter Try.func23, Try.ntmps23
            generalize hw0 : w.alloc (stRow S) = w0 at *
            obtain ⟨v9, v11, v12⟩ : w0.cell? ⟨w.heap.size, 9, none⟩ = some (.slice S.zA S.zN S.zC) ∧ w0.cell? ⟨w.heap.size, 11, none⟩ = some (.slice S.lA S.lN S.lC) ∧ w0.cell? ⟨w.heap.size, 12, none⟩ = some (.slice S.pA S.pN S.pC) := ⟨st_cell K.hs rfl, st_cell K.hs rfl, st_cell K.hs rfl⟩
            go_wp2_with (first
              | ((with_reducible refine load_mid 26 (.tmp 5) w.heap.size 0 [.int .i64 S.cz, .int .i64 S.cs, .int .i64 S.cb, .int .i64 S.cq, .int .i64 S.cd, .int .i64 S.ch] ?_ K.hs ?_ Try.underlying26 ?_ ?_ ?_); (· rfl); (· rfl); (· rfl); (· exact conf_info); simp only [Act.put, List.setIfInBounds_toArray, List.set_cons_zero, List.set_cons_succ])
              | (go_at_call 41; ((with_reducible refine (HD.out _).mono ?_); rintro r9 w1 ⟨rfl, h1⟩; have K1 := K.on h1; clear K hw0 v9 v11 v12 h1; have K := K1; clear K1; obtain ⟨v9, v11, v12⟩ : w1.cell? ⟨w.heap.size, 9, none⟩ = some (.slice S.zA S.zN S.zC) ∧ w1.cell? ⟨w.heap.size, 11, none⟩ = some (.slice S.lA S.lN S.lC) ∧ w1.cell? ⟨w.heap.size, 12, none⟩ = some (.slice S.pA S.pN S.pC) := ⟨st_cell K.hs rfl, st_cell K.hs rfl, st_cell K.hs rfl⟩)))
            have hF := fun W (k : SBox w W S) => (show W.heap[w.heap.size]? = some (stRow S) ∧ W.cell? ⟨w.heap.size, 9, none⟩ = some (.slice (some x) S.zN S.zC) ∧ W.cell? ⟨w.heap.size, 11, none⟩ = some (.slice (some xl) S.lN S.lC) ∧ W.cell? ⟨w.heap.size, 12, none⟩ = some (.slice (some xp) S.pN S.pC) ∧ W.cell? ⟨w.heap.size, 18, none⟩ = some (.int .i64 S.h) ∧ W.cell? ⟨w.heap.size, 19, none⟩ = some (.int .i64 S.k) ∧ W.cell? ⟨w.heap.size, 1, none⟩ = some (.int .i64 S.cs) ∧ W.cell? (x.add (i * 3)) = some (.int .i64 y.state) ∧ W.cell? (xl.add i) = some (.int .i64 l) ∧ W.cell? (xp.add i) = some (.int .i64 p) from ⟨k.hs, by rw [← hxA.out]; exact st_cell k.hs rfl, by rw [← hlA.out]; exact st_cell k.hs rfl, by rw [← hpA.out]; exact st_cell k.hs rfl, st_cell k.hs rfl, st_cell k.hs rfl, st_cell k.hs rfl, HZ.out W k.hb, HL.out W k.hb, HP.out W k.hb⟩)
            refine Plan.start (fun W => W.heap[w.heap.size]? = some (stRow S) ∧ W.cell? ⟨w.heap.size, 9, none⟩ = some (.slice (some x) S.zN S.zC) ∧ W.cell? ⟨w.heap.size, 11, none⟩ = some (.slice (some xl) S.lN S.lC) ∧ W.cell? ⟨w.heap.size, 12, none⟩ = some (.slice (some xp) S.pN S.pC) ∧ W.cell? ⟨w.heap.size, 18, none⟩ = some (.int .i64 S.h) ∧ W.cell? ⟨w.heap.size, 19, none⟩ = some (.int .i64 S.k) ∧ W.cell? ⟨w.heap.size, 1, none⟩ = some (.int .i64 S.cs) ∧ W.cell? (x.add (i * 3)) = some (.int .i64 y.state) ∧ W.cell? (xl.add i) = some (.int .i64 l) ∧ W.cell? (xp.add i) = some (.int .i64 p)) [(0, true), (1, true), (2, true), (3, true), (4, true), (5, true), (6, true), (7, true), (8, true), (9, true), (10, true), (11, true), (12, true), (13, true), (14, true), (15, true), (16, true), (17, true), (18, true), (19, true), (20, true), (21, true), (22, true), (23, true), (24, true), (25, true), (26, true), (27, true), (28, true), (29, true), (30, true), (31, true), (32, true), (33, true), (34, true), (35, false), (36, true), (37, true), (38, true), (39, true), (40, true), (41, true), (42, true), (43, true), (44, true), (45, true), (46, true), (47, true), (48, true), (49, true), (50, true), (51, true)] (by kernel_rfl) (by kernel_rfl) (by kernel_rfl) (by kernel_rfl) (hF _ K.drew) ?_
            simp only [List.map_cons, List.map_nil, List.getElem?_toArray, List.getElem?_cons_zero, List.getElem?_cons_succ]
            repeat (first | (refine Plan.take ?_ (by rfl) ?_ ?_; rotate_left; (· rintro w9 ⟨u0, u1, u2, u3, u4, u5, u6, u7, u8, u9⟩; go_simp; (try rw [if_neg (by omega)]); all_goals (with_reducible rfl)); simp only [Act.put, List.setIfInBounds_toArray, List.set_cons_zero, List.set_cons_succ]) | (refine Plan.pass (by rfl) ?_; simp only [Act.put, List.setIfInBounds_toArray, List.set_cons_zero, List.set_cons_succ]))
            have K2 := K.drew
            refine Plan.pass' (by rfl) (hF _ K2) ?_
            simp only [Act.put, List.setIfInBounds_toArray, List.set_cons_zero, List.set_cons_succ]
            repeat (first | (refine Plan.take ?_ (by rfl) ?_ ?_; rotate_left; (· rintro w9 ⟨u0, u1, u2, u3, u4, u5, u6, u7, u8, u9⟩; go_simp; (try rw [if_neg (by omega)]); all_goals (with_reducible rfl)); simp only [Act.put, List.setIfInBounds_toArray, List.set_cons_zero, List.set_cons_succ]) | (refine Plan.pass (by rfl) ?_; simp only [Act.put, List.setIfInBounds_toArray, List.set_cons_zero, List.set_cons_succ]))
            refine Plan.ends ?_
            clear hF
            go_wp2_with fail
            go_ret
            exact ⟨rfl, K2.hb⟩
          cases q4
          · skip
            go_enter Try.func23, Try.ntmps23
            generalize hw0 : w.alloc (stRow S) = w0 at *
            obtain ⟨v9, v11, v12⟩ : w0.cell? ⟨w.heap.size, 9, none⟩ = some (.slice S.zA S.zN S.zC) ∧ w0.cell? ⟨w.heap.size, 11, none⟩ = some (.slice S.lA S.lN S.lC) ∧ w0.cell? ⟨w.heap.size, 12, none⟩ = some (.slice S.pA S.pN S.pC) := ⟨st_cell K.hs rfl, st_cell K.hs rfl, st_cell K.hs rfl⟩
            go_wp2_with (first
              | ((with_reducible refine load_mid 26 (.tmp 5) w.heap.size 0 [.int .i64 S.cz, .int .i64 S.cs, .int .i64 S.cb, .int .i64 S.cq, .int .i64 S.cd, .int .i64 S.ch] ?_ K.hs ?_ Try.underlying26 ?_ ?_ ?_); (· rfl); (· rfl); (· rfl); (· exact conf_info); simp only [Act.put, List.setIfInBounds_toArray, List.set_cons_zero, List.set_cons_succ])
              | (go_at_call 41; ((with_reducible refine (HD.out _).mono ?_); rintro r9 w1 ⟨rfl, h1⟩; have K1 := K.on h1; clear K hw0 v9 v11 v12 h1; have K := K1; clear K1; obtain ⟨v9, v11, v12⟩ : w1.cell? ⟨w.heap.size, 9, none⟩ = some (.slice S.zA S.zN S.zC) ∧ w1.cell? ⟨w.heap.size, 11, none⟩ = some (.slice S.lA S.lN S.lC) ∧ w1.cell? ⟨w.heap.size, 12, none⟩ = some (.slice S.pA S.pN S.pC) := ⟨st_cell K.hs rfl, st_cell K.hs rfl, st_cell K.hs rfl⟩)))
            have hF := fun W (k : SBox w W S) => (show W.heap[w.heap.size]? = some (stRow S) ∧ W.cell? ⟨w.heap.size, 9, none⟩ = some (.slice (some x) S.zN S.zC) ∧ W.cell? ⟨w.heap.size, 11, none⟩ = some (.slice (some xl) S.lN S.lC) ∧ W.cell? ⟨w.heap.size, 12, none⟩ = some (.slice (some xp) S.pN S.pC) ∧ W.cell? ⟨w.heap.size, 18, none⟩ = some (.int .i64 S.h) ∧ W.cell? ⟨w.heap.size, 19, none⟩ = some (.int .i64 S.k) ∧ W.cell? ⟨w.heap.size, 1, none⟩ = some (.int .i64 S.cs) ∧ W.cell? (x.add (i * 3)) = some (.int .i64 y.state) ∧ W.cell? (xl.add i) = some (.int .i64 l) ∧ W.cell? (xp.add i) = some (.int .i64 p) from ⟨k.hs, by rw [← hxA.out]; exact st_cell k.hs rfl, by rw [← hlA.out]; exact st_cell k.hs rfl, by rw [← hpA.out]; exact st_cell k.hs rfl, st_cell k.hs rfl, st_cell k.hs rfl, st_cell k.hs rfl, HZ.out W k.hb, HL.out W k.hb, HP.out W k.hb⟩)
            refine Plan.start (fun W => W.heap[w.heap.size]? = some (stRow S) ∧ W.cell? ⟨w.heap.size, 9, none⟩ = some (.slice (some x) S.zN S.zC) ∧ W.cell? ⟨w.heap.size, 11, none⟩ = some (.slice (some xl) S.lN S.lC) ∧ W.cell? ⟨w.heap.size, 12, none⟩ = some (.slice (some xp) S.pN S.pC) ∧ W.cell? ⟨w.heap.size, 18, none⟩ = some (.int .i64 S.h) ∧ W.cell? ⟨w.heap.size, 19, none⟩ = some (.int .i64 S.k) ∧ W.cell? ⟨w.heap.size, 1, none⟩ = some (.int .i64 S.cs) ∧ W.cell? (x.add (i * 3)) = some (.int .i64 y.state) ∧ W.cell? (xl.add i) = some (.int .i64 l) ∧ W.cell? (xp.add i) = some (.int .i64 p)) [(0, true), (1, true), (2, true), (3, true), (4, true), (5, true), (6, true), (7, true), (8, true), (9, true), (10, true), (11, true), (12, true), (13, true), (14, true), (15, true), (16, true), (17, true), (18, true), (19, true), (20, true), (21, true), (22, true), (23, true), (24, true), (25, true), (26, true), (27, true), (28, true), (29, true), (30, true), (31, true), (32, true), (33, true), (34, true), (35, false), (36, true), (37, true), (38, true), (39, true), (40, true), (41, true), (42, true), (43, true), (44, true), (45, true), (46, true), (47, true), (48, true), (49, true), (50, true), (51, true)] (by kernel_rfl) (by kernel_rfl) (by kernel_rfl) (by kernel_rfl) (hF _ K.drew) ?_
            simp only [List.map_cons, List.map_nil, List.getElem?_toArray, List.getElem?_cons_zero, List.getElem?_cons_succ]
            repeat (first | (refine Plan.take ?_ (by rfl) ?_ ?_; rotate_left; (· rintro w9 ⟨u0, u1, u2, u3, u4, u5, u6, u7, u8, u9⟩; go_simp; (try rw [if_neg (by omega)]); all_goals (with_reducible rfl)); simp only [Act.put, List.setIfInBounds_toArray, List.set_cons_zero, List.set_cons_succ]) | (refine Plan.pass (by rfl) ?_; simp only [Act.put, List.setIfInBounds_toArray, List.set_cons_zero, List.set_cons_succ]))
            have K2 := K.drew
            refine Plan.pass' (by rfl) (hF _ K2) ?_
            simp only [Act.put, List.setIfInBounds_toArray, List.set_cons_zero, List.set_cons_succ]
            repeat (first | (refine Plan.take ?_ (by rfl) ?_ ?_; rotate_left; (· rintro w9 ⟨u0, u1, u2, u3, u4, u5, u6, u7, u8, u9⟩; go_simp; (try rw [if_neg (by omega)]); all_goals (with_reducible rfl)); simp only [Act.put, List.setIfInBounds_toArray, List.set_cons_zero, List.set_cons_succ]) | (refine Plan.pass (by rfl) ?_; simp only [Act.put, List.setIfInBounds_toArray, List.set_cons_zero, List.set_cons_succ]))
            refine Plan.ends ?_
            clear hF
            go_wp2_with fail
            go_ret
            exact ⟨rfl, K2.hb⟩
          cases q5 <;> cases q6
          all_goals
            go_enter Try.func23, Try.ntmps23
            generalize hw0 : w.alloc (stRow S) = w0 at *
            obtain ⟨v9, v11, v12⟩ : w0.cell? ⟨w.heap.size, 9, none⟩ = some (.slice S.zA S.zN S.zC) ∧ w0.cell? ⟨w.heap.size, 11, none⟩ = some (.slice S.lA S.lN S.lC) ∧ w0.cell? ⟨w.heap.size, 12, none⟩ = some (.slice S.pA S.pN S.pC) := ⟨st_cell K.hs rfl, st_cell K.hs rfl, st_cell K.hs rfl⟩
            go_wp2_with (first
              | ((with_reducible refine load_mid 26 (.tmp 5) w.heap.size 0 [.int .i64 S.cz, .int .i64 S.cs, .int .i64 S.cb, .int .i64 S.cq, .int .i64 S.cd, .int .i64 S.ch] ?_ K.hs ?_ Try.underlying26 ?_ ?_ ?_); (· rfl); (· rfl); (· rfl); (· exact conf_info); simp only [Act.put, List.setIfInBounds_toArray, List.set_cons_zero, List.set_cons_succ])
              | (go_at_call 41; ((with_reducible refine (HD.out _).mono ?_); rintro r9 w1 ⟨rfl, h1⟩; have K1 := K.on h1; clear K hw0 v9 v11 v12 h1; have K := K1; clear K1; obtain ⟨v9, v11, v12⟩ : w1.cell? ⟨w.heap.size, 9, none⟩ = some (.slice S.zA S.zN S.zC) ∧ w1.cell? ⟨w.heap.size, 11, none⟩ = some (.slice S.lA S.lN S.lC) ∧ w1.cell? ⟨w.heap.size, 12, none⟩ = some (.slice S.pA S.pN S.pC) := ⟨st_cell K.hs rfl, st_cell K.hs rfl, st_cell K.hs rfl⟩)))
            have hF := fun W (k : SBox w W S) => (show W.heap[w.heap.size]? = some (stRow S) ∧ W.cell? ⟨w.heap.size, 9, none⟩ = some (.slice (some x) S.zN S.zC) ∧ W.cell? ⟨w.heap.size, 11, none⟩ = some (.slice (some xl) S.lN S.lC) ∧ W.cell? ⟨w.heap.size, 12, none⟩ = some (.slice (some xp) S.pN S.pC) ∧ W.cell? ⟨w.heap.size, 18, none⟩ = some (.int .i64 S.h) ∧ W.cell? ⟨w.heap.size, 19, none⟩ = some (.int .i64 S.k) ∧ W.cell? ⟨w.heap.size, 1, none⟩ = some (.int .i64 S.cs) ∧ W.cell? (x.add (i * 3)) = some (.int .i64 y.state) ∧ W.cell? (xl.add i) = some (.int .i64 l) ∧ W.cell? (xp.add i) = some (.int .i64 p) from ⟨k.hs, by rw [← hxA.out]; exact st_cell k.hs rfl, by rw [← hlA.out]; exact st_cell k.hs rfl, by rw [← hpA.out]; exact st_cell k.hs rfl, st_cell k.hs rfl, st_cell k.hs rfl, st_cell k.hs rfl, HZ.out W k.hb, HL.out W k.hb, HP.out W k.hb⟩)
            refine Plan.start (fun W => W.heap[w.heap.size]? = some (stRow S) ∧ W.cell? ⟨w.heap.size, 9, none⟩ = some (.slice (some x) S.zN S.zC) ∧ W.cell? ⟨w.heap.size, 11, none⟩ = some (.slice (some xl) S.lN S.lC) ∧ W.cell? ⟨w.heap.size, 12, none⟩ = some (.slice (some xp) S.pN S.pC) ∧ W.cell? ⟨w.heap.size, 18, none⟩ = some (.int .i64 S.h) ∧ W.cell? ⟨w.heap.size, 19, none⟩ = some (.int .i64 S.k) ∧ W.cell? ⟨w.heap.size, 1, none⟩ = some (.int .i64 S.cs) ∧ W.cell? (x.add (i * 3)) = some (.int .i64 y.state) ∧ W.cell? (xl.add i) = some (.int .i64 l) ∧ W.cell? (xp.add i) = some (.int .i64 p)) [(0, true), (1, true), (2, true), (3, true), (4, true), (5, true), (6, true), (7, true), (8, true), (9, true), (10, true), (11, true), (12, true), (13, true), (14, true), (15, true), (16, true), (17, true), (18, true), (19, true), (20, true), (21, true), (22, true), (23, true), (24, true), (25, true), (26, true), (27, true), (28, true), (29, true), (30, true), (31, true), (32, true), (33, true), (34, true), (35, false), (36, true), (37, true), (38, true), (39, true), (40, true), (41, true), (42, true), (43, true), (44, true), (45, true), (46, true), (47, true), (48, true), (49, true), (50, true), (51, true)] (by kernel_rfl) (by kernel_rfl) (by kernel_rfl) (by kernel_rfl) (hF _ K.drew) ?_
            simp only [List.map_cons, List.map_nil, List.getElem?_toArray, List.getElem?_cons_zero, List.getElem?_cons_succ]
            repeat (first | (refine Plan.take ?_ (by rfl) ?_ ?_; rotate_left; (· rintro w9 ⟨u0, u1, u2, u3, u4, u5, u6, u7, u8, u9⟩; go_simp; (try rw [if_neg (by omega)]); all_goals (with_reducible rfl)); simp only [Act.put, List.setIfInBounds_toArray, List.set_cons_zero, List.set_cons_succ]) | (refine Plan.pass (by rfl) ?_; simp only [Act.put, List.setIfInBounds_toArray, List.set_cons_zero, List.set_cons_succ]))
            refine Plan.take_mid 39 (.tmp 66) w.heap.size 14 _ [.int .i64 S.eg, .slice S.iA S.iN S.iC, .slice S.rA S.rN S.rC] (by rfl) rfl (by rfl) (fun w9 h9 => h9.1) rfl Try.underlying39 rfl epo_info ?_
            simp only [Act.put, List.setIfInBounds_toArray, List.set_cons_zero, List.set_cons_succ]
            repeat (first | (refine Plan.take ?_ (by rfl) ?_ ?_; rotate_left; (· rintro w9 ⟨u0, u1, u2, u3, u4, u5, u6, u7, u8, u9⟩; go_simp; (try rw [if_neg (by omega)]); all_goals (with_reducible rfl)); simp only [Act.put, List.setIfInBounds_toArray, List.set_cons_zero, List.set_cons_succ]) | (refine Plan.pass (by rfl) ?_; simp only [Act.put, List.setIfInBounds_toArray, List.set_cons_zero, List.set_cons_succ]))
            refine Plan.call (by rfl) 42 _ ?_ (HRT.out _ K.drew.hb) ?_
            · go_simp
            rintro r9 w2 ⟨rfl, h2⟩
            have K2 := K.drew.on h2
            refine ⟨_, rfl, hF _ K2, ?_⟩
            simp only [Act.put, List.setIfInBounds_toArray, List.set_cons_zero, List.set_cons_succ]
            repeat (first | (refine Plan.take ?_ (by rfl) ?_ ?_; rotate_left; (· rintro w9 ⟨u0, u1, u2, u3, u4, u5, u6, u7, u8, u9⟩; go_simp; (try rw [if_neg (by omega)]); all_goals (with_reducible rfl)); simp only [Act.put, List.setIfInBounds_toArray, List.set_cons_zero, List.set_cons_succ]) | (refine Plan.pass (by rfl) ?_; simp only [Act.put, List.setIfInBounds_toArray, List.set_cons_zero, List.set_cons_succ]))
            refine Plan.ends ?_
            clear hF
            go_wp2_with fail
            go_ret
            exact ⟨rfl, K2.hb⟩
        · rw [can_no (.inr (.inr (.inr (by rw [hpl]; omega))))]
          have g3 : (S.pN : Int) ≤ (i : Int) := by omega
          clear hl
          go_enter Try.func23, Try.ntmps23
          generalize hw0 : w.alloc (stRow S) = w0 at *
          obtain ⟨v9, v11, v12⟩ : w0.cell? ⟨w.heap.size, 9, none⟩ = some (.slice S.zA S.zN S.zC) ∧ w0.cell? ⟨w.heap.size, 11, none⟩ = some (.slice S.lA S.lN S.lC) ∧ w0.cell? ⟨w.heap.size, 12, none⟩ = some (.slice S.pA S.pN S.pC) := ⟨st_cell K.hs rfl, st_cell K.hs rfl, st_cell K.hs rfl⟩
          go_wp2_with (first
            | ((with_reducible refine load_mid 26 (.tmp 5) w.heap.size 0 [.int .i64 S.cz, .int .i64 S.cs, .int .i64 S.cb, .int .i64 S.cq, .int .i64 S.cd, .int .i64 S.ch] ?_ K.hs ?_ Try.underlying26 ?_ ?_ ?_); (· rfl); (· rfl); (· rfl); (· exact conf_info); simp only [Act.put, List.setIfInBounds_toArray, List.set_cons_zero, List.set_cons_succ])
            | (go_at_call 41; ((with_reducible refine (HD.out _).mono ?_); rintro r9 w1 ⟨rfl, h1⟩; have K1 := K.on h1; clear K hw0 v9 v11 v12 h1; have K := K1; clear K1; obtain ⟨v9, v11, v12⟩ : w1.cell? ⟨w.heap.size, 9, none⟩ = some (.slice S.zA S.zN S.zC) ∧ w1.cell? ⟨w.heap.size, 11, none⟩ = some (.slice S.lA S.lN S.lC) ∧ w1.cell? ⟨w.heap.size, 12, none⟩ = some (.slice S.pA S.pN S.pC) := ⟨st_cell K.hs rfl, st_cell K.hs rfl, st_cell K.hs rfl⟩)))
          go_ret
          exact ⟨rfl, K.hb⟩
      · rw [can_no (.inr (.inr (.inl (by rw [hll]; omega))))]
        have g2 : (S.lN : Int) ≤ (i : Int) := by omega
        clear hl
        go_enter Try.func23, Try.ntmps23
        generalize hw0 : w.alloc (stRow S) = w0 at *
        obtain ⟨v9, v11, v12⟩ : w0.cell? ⟨w.heap.size, 9, none⟩ = some (.slice S.zA S.zN S.zC) ∧ w0.cell? ⟨w.heap.size, 11, none⟩ = some (.slice S.lA S.lN S.lC) ∧ w0.cell? ⟨w.heap.size, 12, none⟩ = some (.slice S.pA S.pN S.pC) := ⟨st_cell K.hs rfl, st_cell K.hs rfl, st_cell K.hs rfl⟩
        go_wp2_with (first
          | ((with_reducible refine load_mid 26 (.tmp 5) w.heap.size 0 [.int .i64 S.cz, .int .i64 S.cs, .int .i64 S.cb, .int .i64 S.cq, .int .i64 S.cd, .int .i64 S.ch] ?_ K.hs ?_ Try.underlying26 ?_ ?_ ?_); (· rfl); (· rfl); (· rfl); (· exact conf_info); simp only [Act.put, List.setIfInBounds_toArray, List.set_cons_zero, List.set_cons_succ])
          | (go_at_call 41; ((with_reducible refine (HD.out _).mono ?_); rintro r9 w1 ⟨rfl, h1⟩; have K1 := K.on h1; clear K hw0 v9 v11 v12 h1; have K := K1; clear K1; obtain ⟨v9, v11, v12⟩ : w1.cell? ⟨w.heap.size, 9, none⟩ = some (.slice S.zA S.zN S.zC) ∧ w1.cell? ⟨w.heap.size, 11, none⟩ = some (.slice S.lA S.lN S.lC) ∧ w1.cell? ⟨w.heap.size, 12, none⟩ = some (.slice S.pA S.pN S.pC) := ⟨st_cell K.hs rfl, st_cell K.hs rfl, st_cell K.hs rfl⟩)))
        go_ret
        exact ⟨rfl, K.hb⟩
    · rw [can_no (.inr (.inl (by rw [hzl]; omega)))]
      have g1 : (S.zN : Int) ≤ (i : Int) := by omega
      clear hl
      go_enter Try.func23, Try.ntmps23
      generalize hw0 : w.alloc (stRow S) = w0 at *
      obtain ⟨v9, v11, v12⟩ : w0.cell? ⟨w.heap.size, 9, none⟩ = some (.slice S.zA S.zN S.zC) ∧ w0.cell? ⟨w.heap.size, 11, none⟩ = some (.slice S.lA S.lN S.lC) ∧ w0.cell? ⟨w.heap.size, 12, none⟩ = some (.slice S.pA S.pN S.pC) := ⟨st_cell K.hs rfl, st_cell K.hs rfl, st_cell K.hs rfl⟩
      go_wp2_with (first
        | ((with_reducible refine load_mid 26 (.tmp 5) w.heap.size 0 [.int .i64 S.cz, .int .i64 S.cs, .int .i64 S.cb, .int .i64 S.cq, .int .i64 S.cd, .int .i64 S.ch] ?_ K.hs ?_ Try.underlying26 ?_ ?_ ?_); (· rfl); (· rfl); (· rfl); (· exact conf_info); simp only [Act.put, List.setIfInBounds_toArray, List.set_cons_zero, List.set_cons_succ])
        | (go_at_call 41; ((with_reducible refine (HD.out _).mono ?_); rintro r9 w1 ⟨rfl, h1⟩; have K1 := K.on h1; clear K hw0 v9 v11 v12 h1; have K := K1; clear K1; obtain ⟨v9, v11, v12⟩ : w1.cell? ⟨w.heap.size, 9, none⟩ = some (.slice S.zA S.zN S.zC) ∧ w1.cell? ⟨w.heap.size, 11, none⟩ = some (.slice S.lA S.lN S.lC) ∧ w1.cell? ⟨w.heap.size, 12, none⟩ = some (.slice S.pA S.pN S.pC) := ⟨st_cell K.hs rfl, st_cell K.hs rfl, st_cell K.hs rfl⟩)))
      go_ret
      exact ⟨rfl, K.hb⟩
end Go.Proofs.Ythhggiifbldaeaa.Ents
