/- LinearSequential: operations that were answered one after the other have one linearization, their order; with one wrong result they have none; and the block is what the array has at the end. No condition. -/
import Derived.Test.YtnmhnjjehglcfaaGreatPack41
import Derived.Test.YtnmhnjjehglcfaaGreatPack42
import Derived.Test.YtnmhnjjehglcfaaGreatRows
import Derived.WalkKit
import Derived.ProofKit
import Derived.SliceStrings
import Derived.OpenShut
import Derived.ShutString
import Derived.ChangeOld
import Derived.Carry
import Derived.Below

/- Operations that were answered one after the other: their only linearization is their order. Plain mathematics. -/
namespace Go.Proofs.YtnmhnjjehglcfaaGreat.LinMath
open HisMath ModMath CmdMath
def invEv (y : Ev) : Ev := { y with ret := false, err := 0, res := ⟨#[]⟩ }
def seqL (ys : List Ev) : List Ev := ys.flatMap fun y => [invEv y, y]
structure SeqOk (ys : List Ev) : Prop where
  ser : ∀ (i : Nat) (y : Ev), ys[i]? = some y → y.serial = (i : Int)
  one : ∀ y ∈ ys, y.ret = true ∧ y.err = 0 ∧ 0 ≤ y.queue ∧ y.queue < 4 ∧ fitsB y.kind y.err y.res.size = true
structure Seq (L ys : List Ev) : Prop where
  right : Right L
  ops : opsE L L.length = ys
  bef : ∀ (i j : Nat), i < j → j < ys.length → beforeB L (i : Int) (j : Int) = true
  low : ∀ x ∈ L, x.serial < (ys.length : Int)
theorem seqL_snoc (ys : List Ev) (y : Ev) : seqL (ys ++ [y]) = seqL ys ++ [invEv y] ++ [y] := by simp [seqL]
theorem seqL_len : ∀ ys : List Ev, (seqL ys).length = 2 * ys.length
  | [] => rfl
  | y :: ys => by
    have := seqL_len ys
    simp only [seqL, List.flatMap_cons, List.length_append, List.length_cons, List.length_nil] at this ⊢
    omega
theorem seqL_mem {ys : List Ev} {x : Ev} (h : x ∈ seqL ys) : ∃ y ∈ ys, x = invEv y ∨ x = y := by
  obtain ⟨y, hy, hx⟩ := List.mem_flatMap.1 h
  simp at hx
  exact ⟨y, hy, hx⟩
theorem seqL_set {y' : Ev} : ∀ {ys : List Ev} {i : Nat} {y : Ev}, ys[i]? = some y → invEv y' = invEv y → seqL (ys.set i y') = (seqL ys).set (2 * i + 1) y'
  | y :: ys, 0, _, h, he => by
    obtain rfl := Option.some.inj (show some y = some _ from h)
    simp [seqL, he]
  | z :: ys, i + 1, y, h, he => by
    have := seqL_set (ys := ys) (i := i) (y := y) h he
    have h2 : 2 * (i + 1) + 1 = (2 * i + 1) + 1 + 1 := by omega
    simp only [List.set_cons_succ, h2]
    show [invEv z, z] ++ seqL (ys.set i y') = _
    rw [this]
    rfl
theorem SeqOk.front {ys : List Ev} {y : Ev} (h : SeqOk (ys ++ [y])) : SeqOk ys ∧ y.serial = (ys.length : Int) := by
  refine ⟨⟨fun i z hz => h.ser i z ?_, fun z hz => h.one z (List.mem_append_left _ hz)⟩, h.ser _ y ?_⟩
  · rw [List.getElem?_append_left (List.getElem?_eq_some_iff.1 hz).1]; exact hz
  · rw [List.getElem?_append_right (Nat.le_refl _), Nat.sub_self]; rfl
theorem seq_of : ∀ ys : List Ev, SeqOk ys → Seq (seqL ys) ys := by
  refine snoc_ind (fun _ => ⟨.nil, rfl, by intro i j _ hj; exact absurd hj (Nat.not_lt_zero _), by simp [seqL]⟩) ?_
  intro ys y ih h
  obtain ⟨hf, hs⟩ := h.front
  have q := ih hf
  obtain ⟨y1, y2, y3, y4, y5⟩ := h.one y (by simp)
  have hR1 : Right (seqL ys ++ [invEv y]) := .inv q.right ⟨rfl, y3, y4, by show 0 ≤ y.serial; omega, fun z hz hzs => by
    have := q.low z hz
    have h9 : (invEv y).serial = y.serial := rfl
    omega, rfl, rfl⟩
  have hR : Right (seqL ys ++ [invEv y] ++ [y]) := .ret hR1 ⟨y1, y3, y4, by omega, ⟨invEv y, by simp, rfl, rfl, rfl, rfl, rfl, rfl⟩, fun z hz hzr hzs => (by
    rcases List.mem_append.1 hz with h1 | h1
    · have := q.low z h1
      omega
    · rw [List.mem_singleton.1 h1] at hzr
      exact (Bool.false_ne_true hzr).elim), y5⟩
  rw [seqL_snoc]
  have htake : (seqL ys ++ [invEv y] ++ [y]).take (seqL ys).length = seqL ys := by
    rw [List.append_assoc, List.take_append_of_le_length (Nat.le_refl _), List.take_length]
  have hretL : ∀ e ∈ seqL ys, e.ret = false → 0 ≤ retI (seqL ys) e.serial := fun e he her => by
    have hm := (mem_ops q.right).2 ⟨e, he, her, rfl⟩
    rw [q.ops] at hm
    have := (hf.one _ hm).1
    rw [op_ret her, decide_eq_true_eq] at this
    exact this
  have hlast : retI (seqL ys ++ [invEv y] ++ [y]) y.serial = ((seqL ys).length + 1 : Nat) := by
    refine seek_at (j := (seqL ys).length + 1) (e := y) ?_ ?_ ?_
    · rw [List.getElem?_append_right (by simp)]; simp
    · simp [retP, y1]
    · intro i x hi hx
      rw [List.getElem?_append_left (by simp; omega)] at hx
      rcases List.mem_append.1 (List.mem_of_getElem? hx) with h1 | h1
      · have := q.low x h1
        simp [retP]
        intro _
        omega
      · rw [List.mem_singleton.1 h1]; rfl
  have hops : opsE (seqL ys ++ [invEv y] ++ [y]) (seqL ys ++ [invEv y] ++ [y]).length = ys ++ [y] := by
    rw [ops_right hR _ (Nat.le_refl _), List.take_length]
    have h0 := q.ops
    rw [ops_right q.right _ (Nat.le_refl _), List.take_length] at h0
    have e1 : (seqL ys ++ [invEv y] ++ [y]).filter (fun e => !e.ret) = (seqL ys).filter (fun e => !e.ret) ++ [invEv y] := by
      rw [List.filter_append, List.filter_append]
      simp [invEv, y1]
    rw [e1, List.map_append, List.map_singleton]
    congr 1
    · conv => rhs; rw [← h0]
      refine List.map_congr_left fun e he => ?_
      obtain ⟨he1, he2⟩ := List.mem_filter.1 he
      have h1 := hretL e he1 (by simpa using he2)
      have := op_front (L := seqL ys ++ [invEv y] ++ [y]) (n := (seqL ys).length) (e := e) (by rw [htake]; exact h1)
      rw [htake] at this
      exact this.symm
    · have : opOf (seqL ys ++ [invEv y] ++ [y]) (invEv y) = y := by
        unfold opOf
        have h9 : (invEv y).serial = y.serial := rfl
        rw [h9, hlast, if_pos (by omega), Int.toNat_natCast, List.getElem?_append_right (by simp)]
        simp only [List.length_append, List.length_singleton, Nat.sub_self]
        obtain ⟨a1, a2, a3, a4, a5, a6, a7, a8⟩ := y
        simp only at y1
        subst y1
        rfl
      rw [this]
  refine ⟨hR, hops, fun i j hij hj => ?_, fun x hx => ?_⟩
  · rw [List.length_append, List.length_singleton] at hj
    by_cases hjl : j < ys.length
    · exact before_front hR (n := (seqL ys).length) (by rw [htake]; exact q.bef i j hij hjl)
    · have hjl : j = ys.length := by omega
      obtain ⟨z, hz⟩ : ∃ z, ys[i]? = some z := ⟨_, List.getElem?_eq_getElem (by omega)⟩
      have hzs := hf.ser i z hz
      refine (before_sub hR).2 ⟨z, invEv y, ?_, (hf.one z (List.mem_of_getElem? hz)).1, hzs, rfl, by rw [hjl]; exact hs⟩
      refine List.Sublist.trans ?_ (List.sublist_append_left _ _)
      refine List.Sublist.append (l₁ := [z]) (l₂ := seqL ys) ?_ (List.Sublist.refl _)
      rw [List.singleton_sublist]
      exact List.mem_flatMap.2 ⟨z, List.mem_of_getElem? hz, by simp⟩
  · rw [List.length_append, List.length_singleton]
    rcases List.mem_append.1 hx with h1 | h1
    · rcases List.mem_append.1 h1 with h1 | h1
      · have := q.low x h1; omega
      · rw [List.mem_singleton.1 h1]
        show y.serial < _
        omega
    · rw [List.mem_singleton.1 h1]; omega
theorem asc_eq {f : Ev → Int} : ∀ {xs ys : List Ev}, xs.Pairwise (fun a b => f a < f b) → ys.Pairwise (fun a b => f a < f b) → (∀ x ∈ xs, x ∈ ys) → (∀ y ∈ ys, y ∈ xs) → xs = ys
  | [], [], _, _, _, _ => rfl
  | [], y :: ys, _, _, _, h => by have := h y (by simp); cases this
  | x :: xs, [], _, _, h, _ => by have := h x (by simp); cases this
  | x :: xs, y :: ys, h1, h2, h3, h4 => by
    rw [List.pairwise_cons] at h1 h2
    have hxy : x = y := by
      rcases List.mem_cons.1 (h3 x (by simp)) with h | h
      · exact h
      · rcases List.mem_cons.1 (h4 y (by simp)) with h' | h'
        · exact h'.symm
        · have a := h1.1 y h'
          have b := h2.1 x h
          omega
    subst hxy
    congr 1
    refine asc_eq h1.2 h2.2 (fun z hz => ?_) (fun z hz => ?_)
    · rcases List.mem_cons.1 (h3 z (List.mem_cons_of_mem _ hz)) with h | h
      · subst h; have := h1.1 z hz; omega
      · exact h
    · rcases List.mem_cons.1 (h4 z (List.mem_cons_of_mem _ hz)) with h | h
      · subst h; have := h2.1 z hz; omega
      · exact h
/-- the only linearization -/
theorem seq_lin {ys : List Ev} (h : SeqOk ys) {B : List ByteArray} {zs : List Ev} : LinX B (seqL ys) zs ↔ zs = ys ∧ (runW B ys).isSome = true := by
  have q := seq_of ys h
  have hser : ∀ y ∈ ys, ∃ i : Nat, ys[i]? = some y ∧ y.serial = (i : Int) ∧ i < ys.length := fun y hy => by
    obtain ⟨i, hi⟩ := List.mem_iff_getElem?.1 hy
    exact ⟨i, hi, h.ser i y hi, (List.getElem?_eq_some_iff.1 hi).1⟩
  have hasc : ys.Pairwise (fun a b => a.serial < b.serial) := by
    rw [List.pairwise_iff_getElem]
    intro i j hi hj hij
    rw [h.ser i _ (List.getElem?_eq_getElem hi), h.ser j _ (List.getElem?_eq_getElem hj)]
    omega
  constructor
  · intro hl
    have hmem : ∀ z ∈ zs, z ∈ ys := fun z hz => by have := hl.mem z hz; rw [q.ops] at this; exact this
    have hz : zs.Pairwise (fun a b => a.serial < b.serial) := by
      have := hl.nd.and hl.ord
      refine this.imp_of_mem fun {a b} ha hb hab => ?_
      obtain ⟨i, _, h1, h2⟩ := hser a (hmem a ha)
      obtain ⟨j, _, h3, h4⟩ := hser b (hmem b hb)
      rcases Nat.lt_trichotomy i j with h5 | h5 | h5
      · omega
      · exact absurd (by omega) hab.1
      · have h6 := q.bef j i h5 h2
        rw [← h1, ← h3, hab.2] at h6
        cases h6
    have he : zs = ys := asc_eq hz hasc hmem fun y hy => hl.must y (by rw [q.ops]; exact hy) (by
      obtain ⟨a, b, _⟩ := h.one y hy
      simp [mustP, a, b])
    exact ⟨he, he ▸ hl.run⟩
  · rintro ⟨rfl, hr⟩
    refine ⟨fun x hx => by rw [q.ops]; exact hx, hasc.imp fun {a b} hab => by omega, fun x hx => ?_, fun y hy _ => by rw [q.ops] at hy; exact hy, ?_, hr⟩
    · obtain ⟨a, b, _⟩ := h.one x hx
      simp [skipP, b]
    · have := ops_ord q.right
      rw [q.ops] at this
      exact this
theorem seq_order {ys : List Ev} (h : SeqOk ys) {B : List ByteArray} {o : List Int} : linOk B (seqL ys) o = true ↔ o = ys.map (·.serial) ∧ (runW B ys).isSome = true := by
  rw [lin_iff B (right_opn (seq_of ys h).right) o]
  constructor
  · rintro ⟨xs, h1, h2⟩
    obtain ⟨rfl, h3⟩ := (seq_lin h).1 h2
    exact ⟨h1, h3⟩
  · rintro ⟨h1, h2⟩
    exact ⟨ys, h1, (seq_lin h).2 ⟨rfl, h2⟩⟩
end Go.Proofs.YtnmhnjjehglcfaaGreat.LinMath

/- What the law of operations one after the other asks: their histories are of one block, the run gives the last block, and a wrong result spoils it. Plain mathematics. -/
namespace Go.Proofs.YtnmhnjjehglcfaaGreat.LinMath
open HisMath ModMath CmdMath
/-- a block, and not the wrong one -/
def okV (wv v : ByteArray) : Prop := v.size = 16 ∧ v ≠ wv
structure SeqW (z wv : ByteArray) (ys : List Ev) (b : ByteArray) : Prop where
  ok : SeqOk ys
  blk : ∀ y ∈ ys, (1 ≤ y.kind ∧ y.kind ≤ 3) ∧ y.block = 0 ∧ (y.kind = 2 → okV wv y.data) ∧ (y.kind ≠ 2 → y.data.size = 0)
  run : runW [z] ys = some [b]
  val : okV wv b
theorem SeqW.start {z wv : ByteArray} (h : okV wv z) : SeqW z wv [] z :=
  ⟨⟨fun _ _ h => by simp at h, fun _ h => by simp at h⟩, fun _ h => by simp at h, rfl, h⟩
theorem one_err {b d : ByteArray} {k : Int} (hk : 1 ≤ k ∧ k ≤ 3) (h2 : k = 2 → d.size = 16) (h0 : k ≠ 2 → d.size = 0) : errM [b] ⟨k, 0, d⟩ = 0 := by
  unfold errM checkC
  simp only [List.length_singleton]
  by_cases h : k = 2
  · subst h; simp [h2 rfl]
  · have := h0 h
    have h3 : k = 1 ∨ k = 3 := by omega
    rcases h3 with rfl | rfl <;> simp [this]
theorem one_apply {wv b d : ByteArray} {k : Int} (hb : okV wv b) (hz : okV wv zeroC) (hk : 1 ≤ k ∧ k ≤ 3) (h2 : k = 2 → okV wv d) (h0 : k ≠ 2 → d.size = 0) :
    ∃ b', applyB [b] ⟨k, 0, d⟩ = [b'] ∧ okV wv b' ∧ (applyR [b] ⟨k, 0, d⟩).err = 0 ∧ (applyR [b] ⟨k, 0, d⟩).data = if k = 1 then b else ⟨#[]⟩ := by
  have he := one_err (b := b) (d := d) hk (fun h => (h2 h).1) h0
  have hc : k = 1 ∨ k = 2 ∨ k = 3 := by omega
  rcases hc with rfl | rfl | rfl
  · obtain ⟨e1, e2⟩ := apply_read (s := b) he rfl rfl
    exact ⟨b, e1, hb, by rw [e2], by rw [e2]; rfl⟩
  · obtain ⟨e1, e2⟩ := apply_write he rfl
    exact ⟨d, e1, h2 rfl, by rw [e2], by rw [e2]; rfl⟩
  · obtain ⟨e1, e2⟩ := apply_trim he rfl
    exact ⟨zeroC, e1, hz, by rw [e2], by rw [e2]; rfl⟩
theorem SeqW.step {z wv b d : ByteArray} {ys : List Ev} {k : Int} (h : SeqW z wv ys b) (hz : okV wv zeroC) (hk : 1 ≤ k ∧ k ≤ 3) (h2 : k = 2 → okV wv d) (h0 : k ≠ 2 → d.size = 0) {e : Int} {x : ByteArray} (he : e = (applyR [b] ⟨k, 0, d⟩).err) (hx : x = (applyR [b] ⟨k, 0, d⟩).data) :
    ∃ b', applyB [b] ⟨k, 0, d⟩ = [b'] ∧ SeqW z wv (ys ++ [⟨true, 0, (ys.length : Int), k, 0, d, e, x⟩]) b' := by
  obtain ⟨b', h1, hb', hr, hd⟩ := one_apply h.val hz hk h2 h0
  have hrs : fitsB k e x.size = true := by
    rw [he, hx, hr, hd]
    unfold fitsB
    rw [if_pos rfl]
    by_cases hk1 : k = 1
    · rw [if_pos hk1, if_pos hk1, h.val.1]; rfl
    · rw [if_neg hk1, if_neg hk1]; rfl
  refine ⟨b', h1, ⟨⟨fun i y hy => ?_, fun y hy => ?_⟩, fun y hy => ?_, ?_, hb'⟩⟩
  · by_cases hi : i < ys.length
    · rw [List.getElem?_append_left hi] at hy; exact h.ok.ser i y hy
    · have hil := (List.getElem?_eq_some_iff.1 hy).1
      rw [List.length_append, List.length_singleton] at hil
      obtain rfl : i = ys.length := by omega
      rw [List.getElem?_append_right (Nat.le_refl _), Nat.sub_self] at hy
      obtain rfl := Option.some.inj (show some _ = some y from hy)
      rfl
  · rcases List.mem_append.1 hy with hy | hy
    · exact h.ok.one y hy
    · obtain rfl := List.mem_singleton.1 hy
      exact ⟨rfl, by rw [he, hr], by simp, by simp, hrs⟩
  · rcases List.mem_append.1 hy with hy | hy
    · exact h.blk y hy
    · obtain rfl := List.mem_singleton.1 hy
      exact ⟨hk, rfl, h2, h0⟩
  · rw [runW_snoc, h.run]
    have hf : fitR [b] ⟨true, 0, (ys.length : Int), k, 0, d, e, x⟩ := fun _ => ⟨he.symm, hx.symm⟩
    simp only
    rw [if_pos hf]
    exact congrArg some h1
theorem seq_mem_blk {ys : List Ev} (h : ∀ y ∈ ys, (1 ≤ y.kind ∧ y.kind ≤ 3) ∧ y.block = 0) : ∀ x ∈ seqL ys, (1 ≤ x.kind ∧ x.kind ≤ 3) ∧ x.block = 0 := fun x hx => by
  obtain ⟨y, hy, rfl | rfl⟩ := seqL_mem hx
  · exact h y hy
  · exact h x hy
theorem seq_sizes {z : ByteArray} {ys : List Ev} (h : SeqOk ys) (hn : ys.length ≤ 20) (hz : z.size = 16) : sizesE [z] (seqL ys) = 0 := by
  refine sizes_good ?_ (fun i s hi hs => ?_)
  · unfold checkE
    rw [if_neg (by simp), if_neg (by rw [seqL_len]; omega), if_pos ((rights_iff _).2 (seq_of ys h).right)]
  · rcases i with _ | i
    · obtain rfl := Option.some.inj (show some z = some s from hs)
      exact hz
    · simp at hi
theorem seq_single {z : ByteArray} {ys : List Ev} (h : SeqOk ys) (hn : ys.length ≤ 20) (hz : z.size = 16) (hb : ∀ y ∈ ys, (1 ≤ y.kind ∧ y.kind ≤ 3) ∧ y.block = 0) : singleB z (seqL ys) = true := by
  unfold singleB
  have hr : restE (seqL ys) 0 = seqL ys := by
    unfold restE
    rw [List.filter_eq_self]
    intro x hx
    obtain ⟨h1, h2⟩ := seq_mem_blk hb x hx
    have h3 : x.kind = 1 ∨ x.kind = 2 ∨ x.kind = 3 := by omega
    rcases h3 with h3 | h3 | h3 <;> simp [restB, h2, h3]
  rw [hr, seq_sizes h hn hz, (seq_of ys h).ops]
  simpa using hn
theorem seq_lin0 {z : ByteArray} {ys : List Ev} (h : SeqOk ys) (hn : ys.length ≤ 20) (hz : z.size = 16) (o : List Int) : linE [z] (seqL ys) o = if o = ys.map (·.serial) ∧ (runW [z] ys).isSome = true then 0 else 17 := by
  unfold linE
  rw [seq_sizes h hn hz, if_neg (by simp)]
  by_cases hq : o = ys.map (·.serial) ∧ (runW [z] ys).isSome = true
  · rw [if_pos hq, if_pos ((seq_order h).2 hq)]
  · rw [if_neg hq, if_neg (fun h2 => hq ((seq_order h).1 h2))]
theorem SeqW.blk2 {z wv b : ByteArray} {ys : List Ev} (h : SeqW z wv ys b) : ∀ y ∈ ys, (1 ≤ y.kind ∧ y.kind ≤ 3) ∧ y.block = 0 := fun y hy => ⟨(h.blk y hy).1, (h.blk y hy).2.1⟩
theorem SeqW.only {z wv b : ByteArray} {ys : List Ev} (h : SeqW z wv ys b) (hn : ys.length ≤ 20) (hz : z.size = 16) (o : List Int) : linE [z] (seqL ys) o = 0 ↔ o = ys.map (·.serial) := by
  rw [seq_lin0 h.ok hn hz o, h.run]
  simp
theorem SeqW.ends {z wv b : ByteArray} {ys : List Ev} (h : SeqW z wv ys b) (hn : ys.length ≤ 20) (hz : z.size = 16) (u : ByteArray) : endV z (seqL ys) u ↔ u = b := by
  have hs := seq_sizes h.ok hn hz
  have q := seq_of ys h.ok
  have hO := right_opn q.right
  have hblk : blkAt [z] (seqL ys) (ys.map (·.serial)) (ys.map (·.serial)).length = some [b] := by
    have hl := (seq_lin h.ok (B := [z]) (zs := ys)).2 ⟨rfl, by rw [h.run]; rfl⟩
    rw [List.length_map, lin_of [z] hO ys hl.mem hl.nd hl.skip hl.ord, h.run]
  have key : ∀ u, Ends (seqL ys) (opsE (seqL ys) (seqL ys).length) 0 z u → u = b := fun u hu => by
    obtain ⟨l, D, hp, hg⟩ := hu
    have h1 := path_order hO l hp
    have h2 := (h.only hn hz l).1 (path_lin hs hp hg)
    subst h2
    rw [hblk] at h1
    have := Option.some.inj h1
    exact (List.cons.inj this).1.symm
  constructor
  · rintro ⟨_, hu⟩
    exact key u hu
  · rintro rfl
    refine ⟨seq_single h.ok hn hz h.blk2, ?_⟩
    obtain ⟨u', hu'⟩ := (ends_lin hs).2 ⟨_, (h.only hn hz _).2 rfl⟩
    have := key u' hu'
    subst this
    exact hu'
theorem SeqW.order {z wv b : ByteArray} {ys : List Ev} (h : SeqW z wv ys b) : ys.map (·.serial) = (List.range ys.length).map (fun i : Nat => (i : Int)) := by
  apply List.ext_getElem?
  intro i
  by_cases hi : i < ys.length
  · rw [List.getElem?_map, List.getElem?_map, List.getElem?_eq_getElem hi, List.getElem?_range hi, Option.map_some, Option.map_some, h.ok.ser i _ (List.getElem?_eq_getElem hi)]
  · rw [List.getElem?_eq_none (by simp; omega), List.getElem?_eq_none (by simp; omega)]
theorem run_wrong {wv : ByteArray} (hz : okV wv zeroC) : ∀ (ys : List Ev) (s : ByteArray) (r : Nat) (y : Ev), okV wv s → (∀ y ∈ ys, (1 ≤ y.kind ∧ y.kind ≤ 3) ∧ y.block = 0 ∧ (y.kind = 2 → okV wv y.data) ∧ (y.kind ≠ 2 → y.data.size = 0)) → ys[r]? = some y → y.kind = 1 → y.ret = true →
    runW [s] (ys.set r { y with res := wv }) = none
  | [], s, r, y, hs, hb, hr, hk, ht => by simp at hr
  | x :: ys, s, 0, y, hs, hb, hr, hk, ht => by
    obtain rfl := Option.some.inj (show some x = some y from hr)
    obtain ⟨b1, b2, b3, b4⟩ := hb x (by simp)
    obtain ⟨b', _, _, _, hd⟩ := one_apply (b := s) hs hz b1 b3 b4
    rw [List.set_cons_zero, runW, if_neg]
    intro hf
    have := (hf ht).2
    unfold cmdOf at this
    simp only at this
    rw [b2, hd, if_pos hk] at this
    exact hs.2 this
  | x :: ys, s, r + 1, y, hs, hb, hr, hk, ht => by
    obtain ⟨b1, b2, b3, b4⟩ := hb x (by simp)
    obtain ⟨b', ha, hb', _, _⟩ := one_apply (b := s) hs hz b1 b3 b4
    rw [List.set_cons_succ, runW]
    split
    · unfold cmdOf
      rw [b2, ha]
      exact run_wrong hz ys b' r y hb' (fun y hy => hb y (List.mem_cons_of_mem _ hy)) hr hk ht
    · rfl
theorem SeqW.wrong {z wv b : ByteArray} {ys : List Ev} (h : SeqW z wv ys b) (hn : ys.length ≤ 20) (hz : okV wv z) (hzc : okV wv zeroC) (hw : wv.size = 16) {r : Nat} {y : Ev} (hr : ys[r]? = some y) (hk : y.kind = 1) :
    (∀ o, linE [z] ((seqL ys).set (2 * r + 1) { y with res := wv }) o = 17) ∧ ((seqL ys).set (2 * r + 1) { y with res := wv }).length ≤ 40 := by
  have hy := h.ok.one y (List.mem_of_getElem? hr)
  have hok : SeqOk (ys.set r { y with res := wv }) := by
    refine ⟨fun i x hx => ?_, fun x hx => ?_⟩
    · by_cases hi : r = i
      · subst hi
        rw [List.getElem?_set_self (List.getElem?_eq_some_iff.1 hr).1] at hx
        obtain rfl := Option.some.inj hx
        exact h.ok.ser r y hr
      · rw [List.getElem?_set_ne hi] at hx
        exact h.ok.ser i x hx
    · rcases List.mem_or_eq_of_mem_set hx with hx | rfl
      · exact h.ok.one x hx
      · refine ⟨hy.1, hy.2.1, hy.2.2.1, hy.2.2.2.1, ?_⟩
        simp only
        rw [hk, hy.2.1, hw]
        rfl
  rw [← seqL_set (y' := { y with res := wv }) hr rfl]
  refine ⟨fun o => ?_, by rw [seqL_len, List.length_set]; omega⟩
  rw [seq_lin0 hok (by rw [List.length_set]; exact hn) hz.1 o, run_wrong hzc ys z r y hz h.blk hr hk hy.1, if_neg (by simp)]
end Go.Proofs.YtnmhnjjehglcfaaGreat.LinMath

/- The walk of the law LinearFinds. -/
namespace Go.Proofs.YtnmhnjjehglcfaaGreat.Ents
open Go.RowKit Plan HisMath LinMath ModMath CmdMath Rws Env LayMath
theorem zero_list (w : World) : Calls Tryz.prog 16 #[.int .i64 1] w fun r w' => ∃ x c, r = .returned (.slice (some x) 1 c) ∧ SList w' (fun b => w.heap.size ≤ b) (some x) 1 c [zeroC] ∧ Below w.heap.size w w' :=
  (refBNew_any 1 w).mono fun r w' h => by
    obtain ⟨a, n, c, rfl, hl, hb⟩ := h
    have e : newB 1 = [zeroC] := rfl
    rw [e] at hl
    obtain rfl : 1 = n := hl.length
    obtain ⟨x, hx, _⟩ := hl.some' (by decide)
    subst hx
    exact ⟨x, c, rfl, hl.mono fun b _ h => h.resolve_left id, hb⟩
set_option maxHeartbeats 8000000 in
set_option maxRecDepth 20000 in
theorem linFinds_any (H : LinearOk) (HEV : EventsOk) (wrong : Bool) (a : Option Addr) (n c : Nat) (Z : List Int) (w : World) (hz : IsRow .i64 w a n c Z) :
    Calls Tryz.prog 5 #[.slice a n c, .bool wrong] w fun r w' => r = .returned (.bool true) ∧ Below w.heap.size w w' := by
  have HA := Lib.hid (fun W => linAwake_any H W)
  have HL := Lib.hid (fun W => light_any a n c W)
  by_cases hn : (n : Int) ≤ 300
  · rw [decide_eq_true hn] at HL
    have HE := Lib.hid (show Calls Tryz.prog 15 #[.slice a n c, .int .i64 1, .int .i64 9, .bool wrong] w (LMadePost 1 18 wrong w) from HEV.made 1 9 wrong a n c Z w hz (by omega) (by decide) (by decide) (by decide))
    unfold LMadePost at HE
    have HNZ := Lib.hid (fun W => zero_list W)
    have HB2 := Lib.hid (fun W F X a m d (h : VList W F a m d X) (hm : m ≤ 100000) => refBlock_any F zeroC X a m d W h hm)
    have HB1 := Lib.hid (fun W F X a m d (h : VList W F a m d X) (hm : m ≤ 100000) => H.block F zeroC X a m d W h hm)
    have HF := Lib.hid (fun W F G X x q a m d (hs : SList W G x 1 q [zeroC]) (h : VList W F a m d X) (hm : m ≤ 100000) => H.find G F [zeroC] X x a 1 q m d W hs h (by decide) hm)
    have HV1 := Lib.hid (fun W F X a m d (h : VList W F a m d X) (hm : m ≤ 100000) => H.values F zeroC X a m d W h hm)
    have HV2 := Lib.hid (fun W F X a m d (h : VList W F a m d X) (hm : m ≤ 100000) => refValues_any F zeroC X a m d W h hm)
    have HK := Lib.hid (fun W F G I X o x q a m d e p r (hs : SList W G x 1 q [zeroC]) (h : VList W F a m d X) (ho : TList IR W I e p r o) (hm : m ≤ 100000) => refLinCheck_any G F I [zeroC] X o x a e 1 q m d p r W hs h ho (by decide) hm)
    have HSM := Lib.hid (fun W F1 F2 E a1 b1 n1 c1 m1 d1 (l1 : SList W F1 a1 n1 c1 E) (l2 : SList W F2 b1 m1 d1 E) => refBSame_any F1 F2 E a1 b1 n1 c1 m1 d1 W l1 l2)
    unfold FndPost at HF
    unfold BlkPost at HB1 HB2
    unfold ValPost at HV1 HV2
    have hW := Below.refl w.heap.size w
    clear hz
    have HS := Lib.hid (fun X (h : MadeH 1 18 wrong X) => h.single (by decide))
    generalize zeroC = z at *
    go_enter Tryz.func5, Tryz.ntmps5
    go_upto_region 5 with (first
      | (go_at_call 14; ((with_reducible refine (HL.out _).mono ?_); rintro r9 w9 ⟨rfl, rfl⟩))
      | (go_at_call 15; ((with_reducible refine (HE.out).mono ?_); rintro r9 w1 ⟨xa, m, d, X, rfl, lx, h9, hmd⟩; replace hW := hW.trans (h9.mono hW.size); clear h9))
      | (go_at_call 16; ((with_reducible refine (HNZ.out _).mono ?_); rintro r9 w2 ⟨x, q, rfl, lz, h9⟩; replace lx := lx.same h9; replace hW := hW.trans (h9.mono hW.size); clear h9)))
    obtain ⟨hs0, hs1, hs2⟩ := HS.out X hmd
    have hml := hmd.len
    have hxl := lx.length
    have hm : m ≤ 100000 := by omega
    have hq : 1 ≤ q := lz.cap.1
    have hzat := Lib.hid (fun W G (h : SList W G (some x) 1 q [z]) => (show W.cell? x = some (.string z) from by
      obtain ⟨x', s', h1, h2, h3⟩ := str_at h 0 (by decide)
      obtain rfl := Option.some.inj h1
      obtain rfl : z = s' := Option.some.inj h2
      rwa [show x.add 0 = x from by simp [Addr.add]] at h3))
    clear HE HNZ HS hml hxl hmd
    have hz0 := hzat.out _ _ lz
    go_upto_region 8 with (first
      | (go_at_call 19; ((with_reducible refine (HB2.out _ _ _ _ _ _ lx hm).mono ?_); rintro r9 w3 ⟨_, _, _, _, want, rfl, -, h9, p1, -, -⟩; replace lx := lx.same h9; replace lz := lz.same h9; clear hz0; have hz0 := hzat.out _ _ lz; replace hW := hW.trans (h9.mono hW.size); clear h9))
      | (go_at_call 20; ((with_reducible refine (HB1.out _ _ _ _ _ _ lx hm).mono ?_); rintro r9 w4 ⟨oa, on, oc, o, ok, rfl, lo, h9, r1, r2, r3⟩; replace lx := lx.same h9; replace lz := lz.same h9; clear hz0; have hz0 := hzat.out _ _ lz; replace hW := hW.trans (h9.mono hW.size); clear h9; obtain rfl : ok = want := Bool.eq_iff_iff.2 (r1.trans p1.symm); clear p1))
      | (go_at_call 17; ((with_reducible refine (HF.out _ _ _ _ _ _ _ _ _ lz lx hm).mono ?_); rintro r9 w5 ⟨pa, pn, pc, p, is, rfl, lp, h9, s1, s2, s3⟩; replace lx := lx.same h9; replace lz := lz.same h9; replace lo := lo.same h9; clear hz0; have hz0 := hzat.out _ _ lz; replace hW := hW.trans (h9.mono hW.size); clear h9; obtain rfl : is = ok := Bool.eq_iff_iff.2 ((s1.trans hs2).trans ⟨fun h => r1.2 ⟨hs1, h⟩, fun h => (r1.1 h).2⟩); clear r1 s1)))
    clear HB1 HB2 HF hs0 hs1 hs2
    have hdd := (Below.refl w5.heap.size w5).drew
    refine Plan.start (fun W => W.cell? x = some (.string z)) [(0, true), (1, true), (2, true), (3, true), (4, true), (5, true), (6, true), (7, true), (8, true), (9, true), (10, true), (11, true), (12, true), (14, true), (15, true), (16, true), (17, true), (13, false), (18, false), (19, false), (20, true), (21, true)] (by kernel_rfl) (by kernel_rfl) (by kernel_rfl) (by kernel_rfl) (hzat.out _ _ (lz.same hdd)) ?_
    simp only [List.map_cons, List.map_nil, List.getElem?_toArray, List.getElem?_cons_zero, List.getElem?_cons_succ]
    replace lx := lx.same hdd
    replace lz := lz.same hdd
    replace lo := lo.same hdd
    replace lp := lp.same hdd
    replace hW := hW.drew
    clear hdd hz0
    generalize w5.drew = w6 at *
    repeat (first | (refine Plan.take ?_ (by rfl) ?_ ?_; rotate_left; (· rintro w9 u0; go_simp; (try rw [if_neg (by omega)]); all_goals (with_reducible rfl)); simp only [Act.put, List.setIfInBounds_toArray, List.set_cons_zero, List.set_cons_succ]) | (refine Plan.pass (by rfl) ?_; simp only [Act.put, List.setIfInBounds_toArray, List.set_cons_zero, List.set_cons_succ]))
    refine Plan.call (by rfl) 22 _ ?_ (HV1.out _ _ _ _ _ _ lx hm) ?_
    · go_simp
    rintro r9 w7 ⟨ua, un, uc, E1, rfl, lu, h9, a1, a2⟩
    replace lx := lx.same h9
    replace lz := lz.same h9
    replace lo := lo.same h9
    replace lp := lp.same h9
    replace hW := hW.trans (h9.mono hW.size)
    clear h9
    refine ⟨_, rfl, hzat.out _ _ lz, ?_⟩
    simp only [Act.put, List.setIfInBounds_toArray, List.set_cons_zero, List.set_cons_succ]
    refine Plan.call (by rfl) 23 _ ?_ (HV2.out _ _ _ _ _ _ lx hm) ?_
    · go_simp
    rintro r9 w8 ⟨va, vn, vc, E2, rfl, lv, h9, a3, a4⟩
    obtain rfl : E1 = E2 := asc_only a1 a3 (fun u => (a2 u).trans (a4 u).symm)
    clear a1 a2 a3 a4
    replace lu := lu.same h9
    replace lx := lx.same h9
    replace lz := lz.same h9
    replace lo := lo.same h9
    replace lp := lp.same h9
    replace hW := hW.trans (h9.mono hW.size)
    clear h9
    refine ⟨_, rfl, hzat.out _ _ lz, ?_⟩
    simp only [Act.put, List.setIfInBounds_toArray, List.set_cons_zero, List.set_cons_succ]
    refine Plan.call (by rfl) 21 _ ?_ (HSM.out _ _ _ _ _ _ _ _ _ _ lu lv) ?_
    · go_simp
    rintro r9 w10 ⟨rfl, h9⟩
    clear lu lv
    replace lx := lx.same h9
    replace lz := lz.same h9
    replace lo := lo.same h9
    replace lp := lp.same h9
    replace hW := hW.trans (h9.mono hW.size)
    clear h9
    refine ⟨_, rfl, hzat.out _ _ lz, ?_⟩
    simp only [Act.put, List.setIfInBounds_toArray, List.set_cons_zero, List.set_cons_succ]
    repeat (first | (refine Plan.take ?_ (by rfl) ?_ ?_; rotate_left; (· rintro w9 u0; go_simp; (try rw [if_neg (by omega)]); all_goals (with_reducible rfl)); simp only [Act.put, List.setIfInBounds_toArray, List.set_cons_zero, List.set_cons_succ]) | (refine Plan.pass (by rfl) ?_; simp only [Act.put, List.setIfInBounds_toArray, List.set_cons_zero, List.set_cons_succ]))
    refine Plan.ends ?_
    have hon := lo.length
    have hpn := lp.length
    clear HV1 HV2 HSM HL
    cases is with
    | false =>
      obtain rfl := r3 rfl
      obtain rfl := s3 rfl
      obtain rfl : 0 = on := hon
      obtain rfl : 0 = pn := hpn
      clear r2 r3 s2 s3
      go_wp2_with (first
        | (go_at_call 11; ((with_reducible refine (HA.out _).mono ?_); rintro r9 w9 ⟨rfl, h9⟩; replace hW := hW.trans (h9.mono hW.size); clear h9)))
      go_ret
      exact ⟨rfl, hW⟩
    | true =>
      have h1 := r2 rfl
      have h2 := s2 rfl
      clear r2 r3 s2 s3
      go_wp2_with (first
        | (go_at_call 13; ((with_reducible refine (HK.out _ _ _ _ _ _ _ _ _ _ _ _ _ _ lz lx lo hm).mono ?_); rw [h1]; rintro r9 w11 ⟨rfl, h9⟩; replace lx := lx.same h9; replace lz := lz.same h9; replace lp := lp.same h9; clear lo; replace hW := hW.trans (h9.mono hW.size); clear h9))
        | (go_at_call 13; ((with_reducible refine (HK.out _ _ _ _ _ _ _ _ _ _ _ _ _ _ lz lx lp hm).mono ?_); rw [h2]; rintro r9 w12 ⟨rfl, h9⟩; clear lp; replace hW := hW.trans (h9.mono hW.size); clear h9))
        | (go_at_call 11; ((with_reducible refine (HA.out _).mono ?_); rintro r9 w9 ⟨rfl, h9⟩; replace hW := hW.trans (h9.mono hW.size); clear h9)))
      go_ret
      exact ⟨rfl, hW⟩
  · rw [decide_eq_false hn] at HL
    go_enter Tryz.func5, Tryz.ntmps5
    go_wp2_with (first
      | (go_at_call 14; ((with_reducible refine (HL.out _).mono ?_); rintro r9 w9 ⟨rfl, rfl⟩))
      | (go_at_call 11; ((with_reducible refine (HA.out _).mono ?_); rintro r9 w9 ⟨rfl, h9⟩)))
    go_ret
    exact ⟨rfl, h9⟩
end Go.Proofs.YtnmhnjjehglcfaaGreat.Ents

/- The append of a list that lies in memory to any list of the walk's own, also one without a block. -/
namespace Go.Proofs.YtnmhnjjehglcfaaGreat.Env
open Go.RowKit Plan Ents Rws
section
variable {w W W' : World} {T : List Thing} {α : Type} {R : Row α}
theorem Env.app_some (hR : R.Ok) {o : Oper} {a : Act} {K' : Act → World → Prop} {Q : Exit → Act → World → Prop} (s x : Operand)
    (ho : o.op = .call { callee := .builtin .append, args := #[s, x], argTypes := #[R.st, R.st] }) (K : Env w W T) (i : Nat) {v : Value} {m0 : Nat} {M : List α} (hi : T[i]? = some (lst R v m0 M))
    (hs : a.eval s = v) {F : Nat → Prop} {ad : Addr} {m c : Nat} {L : List α} (hx : a.eval x = .slice (some ad) m c) (hl : TList R W F (some ad) m c L) (hm0 : 0 < m) (hm : m0 + m ≤ 1000000)
    (h : ∀ g' c' W', Env w W' (T.set i (lst R (slv g' (m0 + m) c') (m0 + m) (M ++ L))) → (∀ F, Keep w F W T W' (T.set i (lst R (slv g' (m0 + m) c') (m0 + m) (M ++ L)))) → K' (a.put o.dst (slv g' (m0 + m) c')) W') : o.wp Tryz.prog a W K' Q := by
  have hown := K.own i hi
  obtain ⟨i1, hi1, hy0, hy1, hy2⟩ := info_parts hR.info
  have hm2 : (m0 + m) * R.wide ≤ 140737488355328 := Nat.le_trans (Nat.mul_le_mul hm hR.small) (by decide)
  obtain ⟨v', w', hr, h2, h3, h4, h5⟩ := run_append_own_at (P := Tryz.prog) W w.heap.size R.st o.type R.et i1 _ R.sz R.wide hR.und hi1 hy0 hy1 hy2 hR.zs hR.pos _ m0 (R.all M) hown ad m c (R.all L) (by rw [all_length hR, hl.length]) hl.news (all_flat hR L) (by unfold maxLen; omega) hm2 K.hb.size
  have hv : ∃ g' c', v' = slv g' (m0 + m) c' := by
    rcases h2.2 with h9 | ⟨g', c', _, e, _⟩
    · have h8 := h9.2
      omega
    · exact ⟨g', c', e⟩
  obtain ⟨g', c', rfl⟩ := hv
  rw [← all_append] at h2
  unfold Oper.wp execOp
  simp only [ho, resolve, invoke, builtin, Sem.run_bind, Sem.run_pure, Result.andThen_ok, List.map_toArray, List.map_cons, List.map_nil, hs, hx, hr]
  have hn : ∀ g9, (lst R (slv g' (m0 + m) c') (m0 + m) (M ++ L)).has g9 → (lst R v m0 M).has g9 ∨ W.heap.size ≤ g9 := fun g9 e => by
    rcases h5 with h5 | h5
    · exact .inl (h5.symm.trans e)
    · right
      have := h5.symm.trans e
      have := Option.some.inj this
      omega
  exact h g' c' w' (K.set h3 i hi (fun g9 e => e) h2 hn) (fun F => K.keep_set h3 i hi (fun g9 e => e) hn)
theorem Env.apps_some (hR : R.Ok) {ops : Array Oper} {rest : List Oper} {o : Oper} {a : Act} {Q : Exit → Act → World → Prop} (hgd : o.guard = none) (s x : Operand)
    (ho : o.op = .call { callee := .builtin .append, args := #[s, x], argTypes := #[R.st, R.st] }) (K : Env w W T) (i : Nat) {v : Value} {m0 : Nat} {M : List α} (hi : T[i]? = some (lst R v m0 M))
    (hs : a.eval s = v) {F : Nat → Prop} {ad : Addr} {m c : Nat} {L : List α} (hx : a.eval x = .slice (some ad) m c) (hl : TList R W F (some ad) m c L) (hm0 : 0 < m) (hm : m0 + m ≤ 1000000)
    (h : ∀ g' c' W', Env w W' (T.set i (lst R (slv g' (m0 + m) c') (m0 + m) (M ++ L))) → (∀ F, Keep w F W T W' (T.set i (lst R (slv g' (m0 + m) c') (m0 + m) (M ++ L)))) → wpList Tryz.prog ops Q rest (a.put o.dst (slv g' (m0 + m) c')) W') : wpList Tryz.prog ops Q (o :: rest) a W :=
  wpList_plain hgd fun _ hK => K.app_some hR s x ho i hi hs hx hl hm0 hm fun g' c' W' h1 k1 => hK _ _ (h g' c' W' h1 k1)
end
end Go.Proofs.YtnmhnjjehglcfaaGreat.Env

/- The walk of the law LinearSequential. -/
namespace Go.Proofs.YtnmhnjjehglcfaaGreat.Ents
open Go.RowKit Plan HisMath LinMath ModMath CmdMath Rws Env LayMath
/-- the zeros and the blocks, as one thing of the walk -/
def zbF (za ba : Option Addr) : Nat → Prop := fun b => (∃ x, za = some x ∧ b = x.block) ∨ ∃ x, ba = some x ∧ b = x.block
def zbT (za : Option Addr) (zc : Nat) (z : ByteArray) (ba : Option Addr) (bc : Nat) (b : ByteArray) : Thing := .any (zbF za ba) (fun W => SList W (fun x => ∃ y, za = some y ∧ x = y.block) za 1 zc [z] ∧ SList W (fun x => ∃ y, ba = some y ∧ x = y.block) ba 1 bc [b])
theorem one_block {W : World} {F : Nat → Prop} {a : Option Addr} {c : Nat} {s : ByteArray} (h : SList W F a 1 c [s]) : SList W (fun x => ∃ y, a = some y ∧ x = y.block) a 1 c [s] ∧ ∀ b, (∃ y, a = some y ∧ b = y.block) → F b ∧ b < W.heap.size := by
  obtain ⟨x, rfl, hx, hf, _⟩ := h.some' (by decide)
  refine ⟨?_, fun b ⟨y, hy, hb⟩ => by obtain rfl := Option.some.inj hy; subst hb; exact ⟨hf, hx⟩⟩
  rcases h with ⟨_, h1, _, _⟩ | ⟨y, hy, h2, h3, h4, h5, h6, h7⟩
  · omega
  · exact .inr ⟨y, hy, h2, h3, h4, h5, ⟨y, hy, rfl⟩, h7⟩
theorem zb_holds {B0 : Nat} {W : World} {za ba : Option Addr} {zc bc : Nat} {z b : ByteArray} {F G : Nat → Prop} (h1 : SList W F za 1 zc [z]) (h2 : SList W G ba 1 bc [b]) (hF : ∀ x, F x → B0 ≤ x) (hG : ∀ x, G x → B0 ≤ x) : (zbT za zc z ba bc b).holds B0 W := by
  obtain ⟨z1, z2⟩ := one_block h1
  obtain ⟨b1, b2⟩ := one_block h2
  refine ⟨⟨z1, b1⟩, fun x hx => ?_, fun W1 W2 h hs hk => ⟨h.1.on ⟨hs, fun x hx _ => hk x (.inl hx)⟩, h.2.on ⟨hs, fun x hx _ => hk x (.inr hx)⟩⟩⟩
  rcases hx with hx | hx
  · exact ⟨hF _ (z2 x hx).1, (z2 x hx).2⟩
  · exact ⟨hG _ (b2 x hx).1, (b2 x hx).2⟩
section
variable {w W W' : World} {T : List Thing} {za ba ba' : Option Addr} {zc bc bc' : Nat} {z b b' : ByteArray}
theorem zb_z (K : Env w W T) (i : Nat) (h : T[i]? = some (zbT za zc z ba bc b)) : SList W (fun x => ∃ y, za = some y ∧ x = y.block) za 1 zc [z] := (K.at' i h).1.1
theorem zb_b (K : Env w W T) (i : Nat) (h : T[i]? = some (zbT za zc z ba bc b)) : SList W (fun x => ∃ y, ba = some y ∧ x = y.block) ba 1 bc [b] := (K.at' i h).1.2
theorem zb_start (K : Env w W T) (hb : Below W.heap.size W W') (h : SList W' (fun x => W.heap.size ≤ x) za 1 zc [z]) : Env w W' (zbT za zc z za zc z :: T) :=
  K.cons hb (zb_holds h h (fun x hx => Nat.le_trans K.hb.size hx) (fun x hx => Nat.le_trans K.hb.size hx)) (fun g hg => by
    rcases hg with hg | hg
    · exact ((one_block h).2 g hg).1
    · exact ((one_block h).2 g hg).1)
theorem zb_next (K : Env w W T) (i : Nat) (h : T[i]? = some (zbT za zc z ba bc b)) (hb : Below W.heap.size W W') (hl : SList W' (fun x => (∃ y, ba = some y ∧ x = y.block) ∨ W.heap.size ≤ x) ba' 1 bc' [b']) : Env w W' (T.set i (zbT za zc z ba' bc' b')) := by
  have hlo := (K.at' i h).2.1
  have hz := zb_z K i h
  have hz' : SList W' (fun x => ∃ y, za = some y ∧ x = y.block) za 1 zc [z] := hz.on ⟨hb.size, fun x hx _ => hb.block x (hlo x (.inl hx)).2⟩
  refine (K.change i h ⟨hb.os, hb.tape, hb.output, hb.size, fun x hlt _ => hb.block x hlt⟩ (zb_holds hz' hl (fun x hx => (hlo x (.inl hx)).1) fun x hx => ?_) fun x hx => ?_).1
  · rcases hx with h1 | h1
    · exact (hlo x (.inr h1)).1
    · exact Nat.le_trans K.hb.size h1
  · rcases hx with hx | hx
    · exact .inl (.inl hx)
    · rcases ((one_block hl).2 x hx).1 with h1 | h1
      · exact .inl (.inr h1)
      · exact .inr h1
theorem s_at {F : Nat → Prop} {x : Addr} {c : Nat} (h : SList W F (some x) 1 c [z]) : W.cell? x = some (.string z) := by
  obtain ⟨x', s', h1, h2, h3⟩ := str_at h 0 (by decide)
  obtain rfl := Option.some.inj h1
  obtain rfl : z = s' := Option.some.inj h2
  rwa [show x.add 0 = x from by simp [Addr.add]] at h3
end
theorem value_ok (n : Nat) (h1 : 1 ≤ n) (h5 : n ≤ 5) : okV ⟨(valueL 99).toArray⟩ ⟨(valueL n).toArray⟩ := by
  refine ⟨value_length n, ?_⟩
  have : n = 1 ∨ n = 2 ∨ n = 3 ∨ n = 4 ∨ n = 5 := by omega
  rcases this with rfl | rfl | rfl | rfl | rfl <;> decide
theorem zero_ok : okV ⟨(valueL 99).toArray⟩ zeroC := ⟨rfl, by decide⟩
theorem seqL_get : ∀ {ys : List Ev} {k : Nat} {y : Ev}, ys[k]? = some y → (seqL ys)[2 * k + 1]? = some y
  | x :: ys, 0, y, h => h
  | x :: ys, k + 1, y, h => by
    have ih := seqL_get (ys := ys) (k := k) (y := y) h
    have e : 2 * (k + 1) + 1 = (2 * k + 1) + 1 + 1 := by omega
    rw [e]
    exact ih
/-- where the last read stands that the law may spoil -/
def readP (ys : List Ev) (r : Int) : Prop := r = -1 ∨ ∃ (k : Nat) (y : Ev), r = 2 * (k : Int) + 1 ∧ ys[k]? = some y ∧ y.kind = 1
theorem readP.more {ys : List Ev} {r : Int} (h : readP ys r) (y : Ev) : readP (ys ++ [y]) r := by
  rcases h with h | ⟨k, x, h1, h2, h3⟩
  · exact .inl h
  · exact .inr ⟨k, x, h1, by rw [List.getElem?_append_left (List.getElem?_eq_some_iff.1 h2).1]; exact h2, h3⟩
set_option maxHeartbeats 8000000 in
set_option maxRecDepth 20000 in
theorem linSeqLaw_any (H : LinearOk) (wrong : Int) (hw0 : 0 ≤ wrong) (hw9 : wrong ≤ 255) (a : Option Addr) (n c : Nat) (Z : List Int) (w : World) (hz : IsRow .i64 w a n c Z) :
    Calls Tryz.prog 8 #[.slice a n c, .int .u8 wrong] w fun r w' => r = .returned (.bool true) ∧ Below w.heap.size w w' := by
  have HA := Lib.hid (fun W => linAwake_any H W)
  have HL := Lib.hid (fun W => light_any a n c W)
  by_cases hn3 : (n : Int) ≤ 300
  · rw [decide_eq_true hn3] at HL
    have HR := Lib.hid (roll_any a n c Z w hz (by omega))
    unfold RollPost at HR
    have hzl : (Z.take n).length ≤ 100000 := by rw [List.length_take]; omega
    have HNZ := Lib.hid (fun W => zero_list W)
    have K := Env.start w
    generalize Z.take n = zs at *
    clear hz hn3
    go_enter Tryz.func8, Tryz.ntmps8
    go_upto_region 9 with (first
      | (go_at_call 14; ((with_reducible refine (HL.out _).mono ?_); rintro r9 w9 ⟨rfl, rfl⟩))
      | (go_at_call 26; ((with_reducible refine (HR.out).mono ?_); rintro r9 w1 ⟨g, rfl, hd, hb⟩; replace K := (K.roll hd hb).1; clear hd hb))
      | (go_at_call 16; ((with_reducible refine (HNZ.out _).mono ?_); rintro r9 w2 ⟨zx, zc, rfl, lz, hb⟩; replace K := zb_start K hb lz; clear lz hb)))
    clear HL HR HNZ
    obtain ⟨za, hza⟩ : ∃ za, some zx = za := ⟨_, rfl⟩
    rw [hza] at K
    simp only [hza]
    replace K := ((K.nil IR).nil VR).sub (T' := [Env.lst VR (.slice none 0 0) 0 [], Env.lst IR (.slice none 0 0) 0 [], dieT w.heap.size g zs 0, zbT za zc zeroC za zc zeroC]) [0, 1, 3, 2] rfl (by simp) (by simp)
    have HS := Lib.hid (SeqW.start zero_ok)
    have HP := Lib.hid (show readP [] (-1) from .inl rfl)
    go_wp2_with fail
    go_loopw [7, 8, 9, 10, 11] (fun x7 x8 x9 x10 x11 wr => ∃ (i k : Nat) (ys : List Ev) (b : ByteArray) (hv ov : Value) (ba : Option Addr) (bc : Nat) (rd : Int), x7 = .slice ba 1 bc ∧ x8 = hv ∧ x9 = ov ∧ x10 = .int .i64 rd ∧ x11 = .int .i64 (i : Int) ∧ i ≤ 15 ∧ ys.length = i ∧ RowKit.Hid (SeqW zeroC ⟨(valueL 99).toArray⟩ ys b) ∧ RowKit.Hid (readP ys rd) ∧ k ≤ 2 * i ∧ Env w wr [Env.lst VR hv (2 * i) (seqL ys), Env.lst IR ov i (ys.map (·.serial)), dieT w.heap.size g zs k, zbT za zc zeroC ba bc b]) (fun _ _ _ _ x11 _ => 15 - (intOf x11).toNat)
    case atStart => exact ⟨0, 0, [], zeroC, _, _, za, zc, -1, rfl, rfl, rfl, rfl, rfl, by omega, rfl, HS, HP, by omega, K⟩
    case round =>
      clear K HS HP
      obtain ⟨i, k, ys, b, hv, ov, ba, bc, rd, rfl, rfl, rfl, rfl, rfl, hi, hn, HS, HP, hk, K⟩ := hrel
      have HD := Lib.hid (fun W (h : Dice W w.heap.size g zs k) => rest_dice W w.heap.size g zs k h hzl (by omega))
      go_upto_region 10 with fail
      go_cut [36] (fun s wx => ∃ bq : Bool, s = .bool bq ∧ (bq = true → i < 15) ∧ Env w wx [Env.lst VR u8 (2 * i) (seqL ys), Env.lst IR u9 i (ys.map (·.serial)), dieT w.heap.size g zs k, zbT za zc zeroC ba bc b])
      case first =>
        by_cases h15 : i < 15
        · have h15I : (i : Int) < 15 := by omega
          go_wp2_with (first
            | (go_at_call 27; ((with_reducible refine (HD.out _ (K.die 2 rfl)).mono ?_); rintro r9 w5 ⟨rfl, rfl⟩; replace K := K.drew)))
          go_meet
          exact ⟨_, rfl, fun _ => h15, K⟩
        · have h15I : ¬ (i : Int) < 15 := by omega
          go_wp2_with fail
          go_meet
          exact ⟨false, rfl, (fun h => by cases h), K⟩
      case rest =>
        clear K HD
        obtain ⟨bq, rfl, hq, K⟩ := hcut
        cases bq with
        | true =>
          have h15 := hq rfl
          clear hq
          have m1 : True := trivial
          have m2 : True := trivial
          go_upto_if 48 with (first
            | (have z9 := m1; clear z9; go_at_call 28; ((with_reducible refine (K.next 2 rfl hzl _ (by first | assumption | decide | omega) (by first | assumption | decide | omega)).mono ?_); rintro r9 w9 ⟨y, k9, rfl, hy, hk9, K9, -⟩; simp only [List.set] at K9; clear K m1; have K := K9; clear K9; have hyb : y ≤ 1000 := (by omega); have hy13 : 1 ≤ 1 + (y : Int) ∧ 1 + (y : Int) ≤ 3 := ⟨by omega, by omega⟩; have hk65 : IntKind.i64.wrap (1 + (y : Int)) = 1 + (y : Int) := kwrap_one y hyb; have hk64 : wrap64 (1 + (y : Int)) = 1 + (y : Int) := wrap_one y hyb)))
          clear hk64 hk65
          replace K := K.al (.cells #[.bool false, .int .i64 0, .int .i64 (i : Int), .int .i64 (1 + (y : Int)), .int .i64 0, .string ⟨#[]⟩, .int .i64 0, .string ⟨#[]⟩] 55)
          obtain ⟨ge, hge⟩ : ∃ ge, w9.heap.size = ge := ⟨_, rfl⟩
          rw [hge] at K
          simp only [hge]
          generalize w9.alloc (.cells #[.bool false, .int .i64 0, .int .i64 (i : Int), .int .i64 (1 + (y : Int)), .int .i64 0, .string ⟨#[]⟩, .int .i64 0, .string ⟨#[]⟩] 55) = w10 at *
          clear hge
          obtain ⟨b0, b1, b2, b3, b4, b5, b6, b7⟩ := ev_cells (K.get 0 rfl)
          go_cut [] (fun wx => ∃ (sv : ByteArray) (k' : Nat), k' ≤ k9 + 1 ∧ RowKit.Hid ((1 + (y : Int) = 2 → okV ⟨(valueL 99).toArray⟩ sv) ∧ (1 + (y : Int) ≠ 2 → sv.size = 0)) ∧ Env w wx [.box ge (.cells #[.bool false, .int .i64 0, .int .i64 (i : Int), .int .i64 (1 + (y : Int)), .int .i64 0, .string sv, .int .i64 0, .string ⟨#[]⟩] 55), Env.lst VR u8 (2 * i) (seqL ys), Env.lst IR u9 i (ys.map (·.serial)), dieT w.heap.size g zs k', zbT za zc zeroC ba bc b])
          case first =>
            by_cases hy1 : y = 1
            · have d1 : ((1 + (y : Int)) == 2) = true := by simp; omega
              have d2 : (1 + (y : Int)) = 2 := by omega
              go_wp2_with (first
                | (have z9 := m2; clear z9; go_at_call 28; ((with_reducible refine (K.next 3 rfl hzl _ (by first | assumption | decide | omega) (by first | assumption | decide | omega)).mono ?_); rintro r9 w9 ⟨dv, k9, rfl, hdv, hk9, K9, -⟩; simp only [List.set] at K9; clear K m2; have K := K9; clear K9; have hdvb : dv ≤ 1000 := (by omega); have hdv1 : 1 ≤ 1 + dv := (by omega); have hdv5 : 1 + dv ≤ 5 := (by omega); have HVA := fun W => made_value dv W hdvb; have hkw : IntKind.i64.wrap (1 + (dv : Int)) = 1 + (dv : Int) := kwrap_one dv hdvb; have hkw2 : wrap64 (1 + (dv : Int)) = 1 + (dv : Int) := wrap_one dv hdvb))
                | (go_at_call 29; ((with_reducible refine (HVA _).mono ?_); rintro r9 w11 ⟨rfl, hb⟩; have K9 := K.on hb; clear K hb; have K := K9; clear K9; have hsv : okV ⟨(valueL 99).toArray⟩ ⟨(valueL (1 + dv)).toArray⟩ := value_ok (1 + dv) hdv1 hdv5; generalize (⟨(valueL (1 + dv)).toArray⟩ : ByteArray) = sv at *; clear b0 b1 b2 b3 b4 b5 b6 b7; obtain ⟨b0, b1, b2, b3, b4, b5, b6, b7⟩ := ev_cells (K.get 0 rfl); have f5 := K.free 0 rfl 5)))
              clear hkw hkw2
              have K9 := K.put1 0 rfl (cs' := #[.bool false, .int .i64 0, .int .i64 (i : Int), .int .i64 (1 + (y : Int)), .int .i64 0, .string sv, .int .i64 0, .string ⟨#[]⟩]) 5 (.string sv) rfl rfl
              simp only [List.set] at K9
              go_meet
              exact ⟨sv, _, by omega, Lib.hid ⟨fun _ => hsv, fun h => absurd d2 h⟩, K9⟩
            · have d1 : ((1 + (y : Int)) == 2) = false := by simp; omega
              have d2 : ¬ (1 + (y : Int)) = 2 := by omega
              go_wp2_with fail
              go_meet
              exact ⟨⟨#[]⟩, _, by omega, Lib.hid ⟨fun h => absurd h d2, fun _ => rfl⟩, K⟩
          case rest =>
            clear K b0 b1 b2 b3 b4 b5 b6 b7
            obtain ⟨sv, k8, hk8, hsv, K⟩ := hcut
            obtain ⟨b', hap, HN⟩ := HS.out.step (k := 1 + (y : Int)) (d := sv) zero_ok hy13 hsv.out.1 hsv.out.2 rfl rfl
            have HN := Lib.hid HN
            have HAP := Lib.hid (fun W F (h : SList W F ba 1 bc [b]) => refApply_any F [b] ba 1 bc (1 + (y : Int)) 0 sv W h (by decide))
            unfold APost at HAP
            rw [hap] at HAP
            rw [hn] at HN
            generalize applyR [b] ⟨1 + (y : Int), 0, sv⟩ = Z at *
            obtain ⟨ze, zd⟩ := Z
            simp only at HN
            simp only [resV] at HAP
            clear hsv hap HS
            have hcall := Lib.hid (HAP.out _ _ (zb_b K 4 rfl))
            clear HAP
            obtain ⟨b0, b1, b2, b3, b4, b5, b6, b7⟩ := ev_cells (K.get 0 rfl)
            go_upto_region 16 with (first
              | (go_at_call 30; ((with_reducible refine (hcall.out).mono ?_); rintro r9 w1 ⟨ba2, bn2, bc2, rfl, hx, hb⟩; obtain rfl : 1 = bn2 := hx.length; have K9 := zb_next K 4 rfl hb hx; simp only [List.set] at K9; clear K b0 b1 b2 b3 b4 b5 b6 b7 hb hx; have K := K9; clear K9)))
            clear hcall
            replace K := K.al (.cells #[.int .i64 ze, .string zd] 53)
            obtain ⟨gr, hgr⟩ : ∃ gr, w1.heap.size = gr := ⟨_, rfl⟩
            rw [hgr] at K
            simp only [hgr]
            generalize w1.alloc (.cells #[.int .i64 ze, .string zd] 53) = w11 at *
            clear hgr
            go_upto_region 18 with (first
              | ((with_reducible refine Plan.load_lit 55 (.tmp 12) ge ?_ (K.get 1 rfl) Tryz.underlying55 ?_ ?_ ?_); (· rfl); (· rfl); (· exact ev_info); simp only [Act.put, List.setIfInBounds_toArray, List.set_cons_zero, List.set_cons_succ]))
            replace K := K.al (.cells #[.bool false, .int .i64 0, .int .i64 (i : Int), .int .i64 (1 + (y : Int)), .int .i64 0, .string sv, .int .i64 0, .string ⟨#[]⟩] 55)
            obtain ⟨gy, hgy⟩ : ∃ gy, w11.heap.size = gy := ⟨_, rfl⟩
            rw [hgy] at K
            simp only [hgy]
            generalize w11.alloc (.cells #[.bool false, .int .i64 0, .int .i64 (i : Int), .int .i64 (1 + (y : Int)), .int .i64 0, .string sv, .int .i64 0, .string ⟨#[]⟩] 55) = w12 at *
            clear hgy
            refine Plan.start (fun W => W.heap[gr]? = some (.cells #[.int .i64 ze, .string zd] 53 (0, 0))) [(0, true), (1, true), (2, false), (3, true), (4, false)] (by kernel_rfl) (by kernel_rfl) (by kernel_rfl) (by kernel_rfl) (K.drew.get 1 rfl) ?_
            simp only [List.map_cons, List.map_nil, List.getElem?_toArray, List.getElem?_cons_zero, List.getElem?_cons_succ]
            replace K := K.drew
            refine Plan.take_load 53 (.tmp 14) gr _ (by rfl) rfl (by rfl) (fun w9 h9 => h9) Tryz.underlying53 rfl res_info ?_
            simp only [Act.put, List.setIfInBounds_toArray, List.set_cons_zero, List.set_cons_succ]
            repeat (first | (refine Plan.take ?_ (by rfl) ?_ ?_; rotate_left; (· rintro w9 u0; go_simp; (try rw [if_neg (by omega)]); all_goals (with_reducible rfl)); simp only [Act.put, List.setIfInBounds_toArray, List.set_cons_zero, List.set_cons_succ]) | (refine Plan.pass (by rfl) ?_; simp only [Act.put, List.setIfInBounds_toArray, List.set_cons_zero, List.set_cons_succ]))
            refine Plan.carry (by rfl) (K.store1 0 rfl 4 (.tmp 65) (.const (.bool true)) rfl 0 (.bool true) rfl rfl (show 0 < 8 by omega) bool_info1 rfl rfl ?_)
            intro w5 K9 _
            simp only [List.set, List.setIfInBounds_toArray] at K9
            refine ⟨K9.get 1 rfl, ?_⟩
            clear K
            simp only [Act.put]
            repeat (first | (refine Plan.take ?_ (by rfl) ?_ ?_; rotate_left; (· rintro w9 u0; go_simp; (try rw [if_neg (by omega)]); all_goals (with_reducible rfl)); simp only [Act.put, List.setIfInBounds_toArray, List.set_cons_zero, List.set_cons_succ]) | (refine Plan.pass (by rfl) ?_; simp only [Act.put, List.setIfInBounds_toArray, List.set_cons_zero, List.set_cons_succ]))
            refine Plan.carry (by rfl) (K9.storeMid 0 rfl 53 (.tmp 66) (.tmp 64) rfl 6 #[.int .i64 ze, .string zd] #[.bool true, .int .i64 0, .int .i64 (i : Int), .int .i64 (1 + (y : Int)), .int .i64 0, .string sv, .int .i64 ze, .string zd] rfl rfl (show 6 + 2 ≤ 8 by omega) result_info2 (by simp [Value.oneCell']) (by simp [spl]) ?_)
            intro w13 K _
            simp only [List.set] at K
            refine ⟨K.get 1 rfl, ?_⟩
            clear K9
            simp only [Act.put]
            refine Plan.ends ?_
            go_upto_region 20 with (first
              | ((with_reducible refine Plan.load_lit 55 (.tmp 12) ge ?_ (K.get 2 rfl) Tryz.underlying55 ?_ ?_ ?_); (· rfl); (· rfl); (· exact ev_info); simp only [Act.put, List.setIfInBounds_toArray, List.set_cons_zero, List.set_cons_succ])
              | ((with_reducible refine Plan.load_lit 55 (.tmp 15) gy ?_ (K.get 0 rfl) Tryz.underlying55 ?_ ?_ ?_); (· rfl); (· rfl); (· exact ev_info); simp only [Act.put, List.setIfInBounds_toArray, List.set_cons_zero, List.set_cons_succ])
              | (have KB := K.al (.cells #[.bool false, .int .i64 0, .int .i64 (i : Int), .int .i64 (1 + (y : Int)), .int .i64 0, .string sv, .int .i64 0, .string ⟨#[]⟩, .bool true, .int .i64 0, .int .i64 (i : Int), .int .i64 (1 + (y : Int)), .int .i64 0, .string sv, .int .i64 ze, .string zd] 55); refine KB.apps_some vrOk rfl (.tmp 67) (.tmp 70) rfl 4 rfl rfl (L := [(⟨false, 0, (i : Int), 1 + (y : Int), 0, sv, 0, ⟨#[]⟩⟩ : Ev), (⟨true, 0, (i : Int), 1 + (y : Int), 0, sv, ze, zd⟩ : Ev)]) (F := fun _ => True) rfl (lit_list (R := VR) (L := [(⟨false, 0, (i : Int), 1 + (y : Int), 0, sv, 0, ⟨#[]⟩⟩ : Ev), (⟨true, 0, (i : Int), 1 + (y : Int), 0, sv, ze, zd⟩ : Ev)]) (fr := (0, 0)) (KB.get 0 rfl) trivial (by show (2 : Nat) ≤ maxLen; unfold maxLen; decide)) (Nat.succ_pos 1) (by show 2 * i + 2 ≤ 1000000; omega) ?_; intro gh ch w14 K8 _; simp only [List.set] at K8; simp only [Act.put, List.setIfInBounds_toArray, List.set_cons_zero, List.set_cons_succ]; clear KB K))
            have KB := K8.al (.cells #[.int .i64 (i : Int)] 3)
            go_upto_region 21 with (first
              | (refine KB.apps_one irOk rfl (.tmp 72) (.tmp 74) rfl 6 0 rfl rfl (e := (i : Int)) rfl rfl (by omega) ?_; intro go co w15 K9 _; simp only [List.set] at K9; simp only [Act.put, List.setIfInBounds_toArray, List.set_cons_zero, List.set_cons_succ]; clear KB K8))
            replace K := K9.sub (T' := [.box ge (.cells #[.bool false, .int .i64 0, .int .i64 (i : Int), .int .i64 (1 + (y : Int)), .int .i64 0, .string sv, .int .i64 0, .string ⟨#[]⟩] 55), Env.lst VR (Env.slv gh (2 * i + 2) ch) (2 * i + 2) (seqL ys ++ [(⟨false, 0, (i : Int), 1 + (y : Int), 0, sv, 0, ⟨#[]⟩⟩ : Ev), (⟨true, 0, (i : Int), 1 + (y : Int), 0, sv, ze, zd⟩ : Ev)]), Env.lst IR (Env.slv go (i + 1) co) (i + 1) (ys.map (·.serial) ++ [(i : Int)]), dieT w.heap.size g zs k8, zbT za zc zeroC ba2 bc2 b']) [4, 5, 6, 7, 8] rfl (by simp) (by simp)
            clear K9
            rw [show seqL ys ++ [(⟨false, 0, (i : Int), 1 + (y : Int), 0, sv, 0, ⟨#[]⟩⟩ : Ev), (⟨true, 0, (i : Int), 1 + (y : Int), 0, sv, ze, zd⟩ : Ev)] = seqL (ys ++ [(⟨true, 0, (i : Int), 1 + (y : Int), 0, sv, ze, zd⟩ : Ev)]) from by rw [seqL_snoc, List.append_assoc]; rfl, show ys.map (·.serial) ++ [(i : Int)] = (ys ++ [(⟨true, 0, (i : Int), 1 + (y : Int), 0, sv, ze, zd⟩ : Ev)]).map (·.serial) from by rw [List.map_append]; rfl] at K
            obtain ⟨b0, b1, b2, b3, b4, b5, b6, b7⟩ := ev_cells (K.get 0 rfl)
            have hl9 : (ys ++ [(⟨true, 0, (i : Int), 1 + (y : Int), 0, sv, ze, zd⟩ : Ev)]).length = i + 1 := by rw [List.length_append, hn]; rfl
            have HPN := Lib.hid (HP.out.more (⟨true, 0, (i : Int), 1 + (y : Int), 0, sv, ze, zd⟩ : Ev))
            have KE := K.tail
            clear K HP
            have hrd : wrap64 (((2 * i + 2 : Nat) : Int) - 1) = 2 * (i : Int) + 1 := by unfold wrap64; omega
            have hrk : IntKind.i64.wrap (((2 * i + 2 : Nat) : Int) - 1) = 2 * (i : Int) + 1 := by rw [IntWalk.i64_in _ (by omega)]; omega
            by_cases hy0 : y = 0
            · have d1 : ((1 + (y : Int)) == 1) = true := by simp; omega
              have d2 : (1 + (y : Int)) = 1 := by omega
              have HPY := Lib.hid (show readP (ys ++ [(⟨true, 0, (i : Int), 1 + (y : Int), 0, sv, ze, zd⟩ : Ev)]) (2 * (i : Int) + 1) from .inr ⟨i, _, rfl, by rw [List.getElem?_append_right (by omega), show i - ys.length = 0 by omega]; rfl, d2⟩)
              obtain ⟨q, hq⟩ : ∃ q, decide ((i : Int) ≤ wrong % 15) = q := ⟨_, rfl⟩
              have hq2 : decide ((i : Int) ≤ wrong.tmod 15) = q := by rw [← hq, Int.tmod_eq_emod_of_nonneg hw0]
              cases q with
              | true =>
                go_wp2_with fail
                go_roundw
                case rel => exact ⟨i + 1, k8, ys ++ [(⟨true, 0, (i : Int), 1 + (y : Int), 0, sv, ze, zd⟩ : Ev)], b', _, _, ba2, bc2, _, rfl, rfl, rfl, rfl, by go_num, by omega, hl9, HN, (by have e9 : 2 * (i : Int) + 2 - 1 = 2 * (i : Int) + 1 := (by omega); rw [e9]; exact HPY), by omega, KE⟩
                case measure => simp [intOf]; omega
              | false =>
                go_wp2_with fail
                go_roundw
                case rel => exact ⟨i + 1, k8, ys ++ [(⟨true, 0, (i : Int), 1 + (y : Int), 0, sv, ze, zd⟩ : Ev)], b', _, _, ba2, bc2, _, rfl, rfl, rfl, rfl, by go_num, by omega, hl9, HN, HPN, by omega, KE⟩
                case measure => simp [intOf]; omega
            · have d1 : ((1 + (y : Int)) == 1) = false := by simp; omega
              have d2 : ¬ (1 + (y : Int)) = 1 := by omega
              go_wp2_with fail
              go_roundw
              case rel => exact ⟨i + 1, k8, ys ++ [(⟨true, 0, (i : Int), 1 + (y : Int), 0, sv, ze, zd⟩ : Ev)], b', _, _, ba2, bc2, _, rfl, rfl, rfl, rfl, by go_num, by omega, hl9, HN, HPN, by omega, KE⟩
              case measure => simp [intOf]; omega
        | false =>
          clear hq
          subst hza
          have hzw : (⟨(valueL 99).toArray⟩ : ByteArray).size = 16 := value_length 99
          have HONLY := Lib.hid (fun o => HS.out.only (by omega) rfl o)
          have HSGL := Lib.hid (seq_single (z := zeroC) HS.out.ok (by omega) rfl HS.out.blk2)
          have HEND := Lib.hid (fun u => HS.out.ends (by omega) rfl u)
          have HWR := Lib.hid (fun k y (h1 : ys[k]? = some y) (h2 : y.kind = 1) => HS.out.wrong (by omega) zero_ok zero_ok hzw (r := k) (y := y) h1 h2)
          have HORD := Lib.hid HS.out.order
          have hbok := HS.out.val
          clear HS
          generalize hwv : (⟨(valueL 99).toArray⟩ : ByteArray) = wv at *
          have HV99 := Lib.hid (fun W => (show Calls Tryz.prog 29 #[.int .i64 99] W fun e w' => e = .returned (.string wv) ∧ Below W.heap.size W w' from by rw [← hwv]; exact value_any 99 (by decide) W))
          clear hwv hzw
          have HBL := Lib.hid (fun W F X a m d (h : VList W F a m d X) (hm : m ≤ 100000) => H.block F zeroC X a m d W h hm)
          have HVL := Lib.hid (fun W F X a m d (h : VList W F a m d X) (hm : m ≤ 100000) => H.values F zeroC X a m d W h hm)
          have HCK := Lib.hid (fun W F G I X o x q a m d e p r (hs : SList W G x 1 q [zeroC]) (h : VList W F a m d X) (ho : TList IR W I e p r o) (hm : m ≤ 100000) (hp : p ≤ 100000) => H.check G F I [zeroC] X o x a e 1 q m d p r W hs h ho (by decide) hm hp)
          unfold BlkPost at HBL
          unfold ValPost at HVL
          have hlin : linE [zeroC] (seqL ys) (ys.map (·.serial)) = 0 := (HONLY.out _).2 rfl
          obtain ⟨bx, rfl, _⟩ : ∃ x, ba = some x ∧ True := by obtain ⟨x, h1, _⟩ := (zb_b K 3 rfl).some' (by decide); exact ⟨x, h1, trivial⟩
          have hbc : 1 ≤ bc := (zb_b K 3 rfl).cap.1
          have hzc : 1 ≤ zc := (zb_z K 3 rfl).cap.1
          generalize zeroC = z at *
          obtain ⟨ha, hc, rfl, lh⟩ := K.any vrOk 0 rfl
          obtain ⟨oa, oc, rfl, lr⟩ := K.any irOk 1 rfl
          have hz0 := s_at (zb_z K 3 rfl)
          have hm2 : 2 * i ≤ 100000 := by omega
          have hm1 : i ≤ 100000 := by omega
          go_upto_region 25 with (first
            | (go_at_call 20; ((with_reducible refine (HBL.out _ _ _ _ _ _ lh hm2).mono ?_); rintro r9 w3 ⟨pa, pn, pc, p, ok, rfl, lp, h9, r1, r2, -⟩; replace K := K.on h9; replace lh := lh.same h9; replace lr := lr.same h9; clear hz0 h9; have hz0 := s_at (zb_z K 3 rfl)))
            | (go_at_call 22; ((with_reducible refine (HVL.out _ _ _ _ _ _ lh hm2).mono ?_); rintro r9 w4 ⟨ea, en, ec, E, rfl, le, h9, q1, q2⟩; replace K := K.on h9; replace lh := lh.same h9; replace lr := lr.same h9; replace lp := lp.same h9; clear hz0 h9; have hz0 := s_at (zb_z K 3 rfl))))
          obtain rfl : ok = true := r1.2 ⟨HSGL.out, _, hlin⟩
          obtain rfl : p = ys.map (·.serial) := (HONLY.out _).1 (r2 rfl)
          obtain rfl : E = [b] := asc_only q1 (List.pairwise_singleton _ _) (fun u => by rw [q2, HEND.out, List.mem_singleton])
          clear r1 r2 q1 q2 HVL HEND HSGL HONLY
          obtain rfl : i = pn := by rw [← lp.length, List.length_map]; exact hn.symm
          obtain rfl : 1 = en := le.length
          obtain ⟨ex, rfl, _⟩ : ∃ x, ea = some x ∧ True := by obtain ⟨x, h1, _⟩ := le.some' (by decide); exact ⟨x, h1, trivial⟩
          have hec : 1 ≤ ec := le.cap.1
          have hbb : (b == b) = true := (MapKept.bytes_beq b b).2 rfl
          have hdd := (Below.refl w4.heap.size w4).drew
          refine Plan.start (fun W => W.cell? ex = some (.string b) ∧ W.cell? bx = some (.string b)) [(0, true), (1, true), (2, true), (3, true), (4, true), (5, true), (6, true), (7, true), (8, true), (9, true), (10, true), (11, true), (12, true), (13, false), (14, true), (15, true), (16, true), (17, true), (18, true), (19, true), (20, true), (21, true), (22, true), (23, true), (24, true), (25, true), (26, true), (27, true), (28, true), (29, true)] (by kernel_rfl) (by kernel_rfl) (by kernel_rfl) (by kernel_rfl) ⟨s_at (le.same hdd), s_at (zb_b K.drew 3 rfl)⟩ ?_
          simp only [List.map_cons, List.map_nil, List.getElem?_toArray, List.getElem?_cons_zero, List.getElem?_cons_succ]
          replace K := K.drew
          replace lh := lh.same hdd
          replace lr := lr.same hdd
          replace lp := lp.same hdd
          replace le := le.same hdd
          clear hdd hz0
          generalize w4.drew = w6 at *
          repeat (first | (refine Plan.take ?_ (by rfl) ?_ ?_; rotate_left; (· rintro w9 ⟨u0, u1⟩; go_simp; (try rw [if_neg (by omega)]); all_goals (with_reducible rfl)); simp only [Act.put, List.setIfInBounds_toArray, List.set_cons_zero, List.set_cons_succ]) | (refine Plan.pass (by rfl) ?_; simp only [Act.put, List.setIfInBounds_toArray, List.set_cons_zero, List.set_cons_succ]))
          refine Plan.call (by rfl) 12 _ ?_ (HCK.out _ _ _ _ _ _ _ _ _ _ _ _ _ _ (zb_z K 3 rfl) lh lr hm2 hm1) ?_
          · go_simp
          rintro r9 w7 ⟨rfl, h9⟩
          replace K := K.on h9
          replace le := le.same h9
          replace lp := lp.same h9
          clear lh lr h9
          refine ⟨_, rfl, ⟨s_at le, s_at (zb_b K 3 rfl)⟩, ?_⟩
          rw [hlin]
          simp only [Act.put, List.setIfInBounds_toArray, List.set_cons_zero, List.set_cons_succ]
          repeat (first | (refine Plan.take ?_ (by rfl) ?_ ?_; rotate_left; (· rintro w9 ⟨u0, u1⟩; go_simp; (try rw [if_neg (by omega)]); all_goals (with_reducible rfl)); simp only [Act.put, List.setIfInBounds_toArray, List.set_cons_zero, List.set_cons_succ]) | (refine Plan.pass (by rfl) ?_; simp only [Act.put, List.setIfInBounds_toArray, List.set_cons_zero, List.set_cons_succ]))
          refine Plan.ends ?_
          clear le hlin
          have HO := Lib.hid (fun W (h : Below w7.heap.size w7 W) j (hj : j < i) => (show ∃ x, pa = some x ∧ W.cell? (x.add j) = some (.int .i64 (j : Int)) from by
            obtain ⟨x, y, h1, h2, h3⟩ := ir_at (lp.same h) j hj
            rw [HORD.out, List.getElem?_map, List.getElem?_range (by omega)] at h2
            obtain rfl := Option.some.inj h2
            exact ⟨x, h1, h3⟩))
          have hpc := lp.cap
          unfold maxLen at hpc
          have h7 := Below.refl w7.heap.size w7
          clear lp HORD
          go_wp2_with fail
          go_loopw [19] (fun x wr => ∃ j : Nat, x = .int .i64 (j : Int) ∧ j ≤ i ∧ Below w7.heap.size w7 wr) (fun x _ => i - (intOf x).toNat)
          case atStart => exact ⟨0, rfl, by omega, h7⟩
          case round =>
            clear h7
            obtain ⟨j, rfl, hj, h7⟩ := hrel
            by_cases hlt : j < i
            · obtain ⟨x, rfl, c0⟩ := HO.out wr h7 j hlt
              have hjI : (j : Int) < (i : Int) := by omega
              go_wp2_with fail
              go_roundw
              case rel => exact ⟨j + 1, by go_num, by omega, h7⟩
              case measure => simp [intOf]; omega
            · obtain rfl : j = i := by omega
              have hjI : ¬ (j : Int) < (j : Int) := by omega
              replace K := K.on h7
              clear HO h7
              rcases HP.out with rfl | ⟨k2, y, rfl, hy, hk1⟩
              · clear HWR
                go_wp2_with (first
                  | (go_at_call 11; ((with_reducible refine (HA.out _).mono ?_); rintro r9 w9 ⟨rfl, h9⟩; replace K := K.on h9; clear h9)))
                go_ret
                exact ⟨rfl, K.hb⟩
              · have hyk := (List.getElem?_eq_some_iff.1 hy).1
                obtain ⟨hw17, hwl⟩ := HWR.out k2 y hy hk1
                obtain ⟨hg, hc9, e9⟩ := K.val vrOk 0 rfl (by omega)
                obtain ⟨rfl, -, rfl⟩ := Value.slice.inj e9
                clear e9 HWR
                have hseq := seqL_get hy
                have hrdc : (2 * (k2 : Int) + 1) = ((2 * k2 + 1 : Nat) : Int) := by omega
                rw [hrdc]
                have hkI : ((2 * k2 + 1 : Nat) : Int) < ((2 * j : Nat) : Int) := by omega
                have hk0 : (0 : Int) ≤ ((2 * k2 + 1 : Nat) : Int) := by omega
                have hkc : 2 * k2 + 1 ≤ hc := by have h9 := (K.list vrOk 0 rfl).cap; omega
                have hcap := (K.list vrOk 0 rfl).cap
                unfold maxLen at hcap
                obtain ⟨yr, yq, ys9, yk, yb, yd, ye, yx⟩ := y
                simp only at hk1 hw17 hwl
                have HBL2 := Lib.hid (fun W F a m d (h : VList W F a m d _) (hm : m ≤ 100000) => HBL.out W F ((seqL ys).set (2 * k2 + 1) ⟨yr, yq, ys9, yk, yb, yd, ye, wv⟩) a m d h hm)
                have HCK2 := Lib.hid (fun W F G I x q a m d e p r hs h ho hm hp => HCK.out W F G I ((seqL ys).set (2 * k2 + 1) ⟨yr, yq, ys9, yk, yb, yd, ye, wv⟩) (ys.map (·.serial)) x q a m d e p r hs h ho hm hp)
                rw [hw17] at HCK2
                clear HBL HCK hrdc
                generalize hq2 : 2 * k2 + 1 = k3 at *
                clear hq2
                go_upto_region 34 with (first
                  | (go_at_call 29; ((with_reducible refine (HV99.out _).mono ?_); rintro r9 w8 ⟨rfl, h9⟩; replace K := K.on h9; clear h9; obtain ⟨z7, f7⟩ := K.ownF vrOk 0 rfl (k := k3) (f := 7) hseq (u := .string yx) rfl; simp only [show VR.sz = 8 from rfl] at z7 f7; have z7' : w8.cell? ⟨hg, k3 * 8 + 6 + 1, none⟩ = some (.string yx) := z7; have f7' : w8.frozen? ⟨hg, k3 * 8 + 6 + 1, none⟩ = false := f7; clear z7 f7; have K9 := (K.setF vrOk 0 rfl (k := k3) (f := 7) (⟨yr, yq, ys9, yk, yb, yd, ye, wv⟩ : Ev) hseq (by show 7 < 8; decide) (u := .string wv) rfl).1; simp only [List.set, show VR.sz = 8 from rfl] at K9)))
                clear z7' f7' K
                generalize World.setCell _ _ _ = w10 at *
                have K := K9
                clear K9
                obtain ⟨ha, hc, e9, lh⟩ := K.any vrOk 0 rfl
                obtain ⟨rfl, -, rfl⟩ := Value.slice.inj e9
                obtain ⟨oa2, oc2, e8, lr⟩ := K.any irOk 1 rfl
                obtain ⟨rfl, -, rfl⟩ := Value.slice.inj e8
                clear e8 e9
                have hz0 := s_at (zb_z K 3 rfl)
                go_upto_region 35 with (first
                  | (go_at_call 20; ((with_reducible refine (HBL2.out _ _ _ _ _ lh hm2).mono ?_); rintro r9 w11 ⟨pa, pn, pc, p, ok, rfl, lp, h9, r1, -, -⟩; replace K := K.on h9; replace lh := lh.same h9; replace lr := lr.same h9; clear hz0 h9 lp)))
                obtain rfl : ok = false := by
                  cases ok with
                  | false => rfl
                  | true =>
                    obtain ⟨_, o, ho⟩ := r1.1 rfl
                    rw [hw17 o] at ho
                    cases ho
                clear r1
                go_wp2_with (first
                  | (go_at_call 12; ((with_reducible refine (HCK2.out _ _ _ _ _ _ _ _ _ _ _ _ (zb_z K 3 rfl) lh lr hm2 hm1).mono ?_); rintro r9 w12 ⟨rfl, h9⟩; replace K := K.on h9; clear h9 lh lr))
                  | (go_at_call 11; ((with_reducible refine (HA.out _).mono ?_); rintro r9 w9 ⟨rfl, h9⟩; replace K := K.on h9; clear h9)))
                go_ret
                exact ⟨rfl, K.hb⟩
  · rw [decide_eq_false hn3] at HL
    go_enter Tryz.func8, Tryz.ntmps8
    go_wp2_with (first
      | (go_at_call 14; ((with_reducible refine (HL.out _).mono ?_); rintro r9 w9 ⟨rfl, rfl⟩))
      | (go_at_call 11; ((with_reducible refine (HA.out _).mono ?_); rintro r9 w9 ⟨rfl, h9⟩)))
    go_ret
    exact ⟨rfl, h9⟩
end Go.Proofs.YtnmhnjjehglcfaaGreat.Ents

/- LinearSequential: operations that were answered one after the other have one linearization, their order; with one wrong result they have none; and the block is what the array has at the end. No condition. -/
namespace Go.Proofs.YtnmhnjjehglcfaaGreat.linearSequential
open Go.ChangeShapes Go.WideShapes Go.ChangeAt Go.RowKit
open Go.ChangeMaps (open_string shut_string)
set_option linter.unusedVariables false

theorem own : ownKnob Tryz.prog.godebug = none := by kernel_rfl
theorem laidOut : laidOutB Tryz.prog = true := by kernel_rfl

theorem walk (a0 : Option Addr) (l0 c0 : Nat) (z0 : List Int) (a1 : Int) (w1 : (Lit.int .u8 a1).wf = true) (w : World) (w0 : IsRow .i64 w a0 l0 c0 z0) :
    Calls Tryz.prog 8 #[.slice a0 l0 c0, .int .u8 a1] w fun e w' => e = .returned (.bool true) ∧ Below w.heap.size w w' := by
  exact Ents.linSeqLaw_any Ents.linearOk a1 (by have e1 : IntKind.u8.min = 0 := rfl; have e2 : IntKind.u8.max = 255 := rfl; simp only [Lit.wf, decide_eq_true_eq, Bool.and_eq_true] at w1; omega) (by have e1 : IntKind.u8.min = 0 := rfl; have e2 : IntKind.u8.max = 255 := rfl; simp only [Lit.wf, decide_eq_true_eq, Bool.and_eq_true] at w1; omega) a0 l0 c0 z0 w w0

set_option maxRecDepth 100000 in
theorem lifted (os : Os) (started : os.Started) (H : Type) (enc : TypeId × Value → H) :
    ReturnsInHanded {} Tryz.checked os 8 .any (Rows.linearSequentialSpec.pre6 enc Tryz.prog Tryz.f8 Rows.linearSequentialRow.domain false) (Rows.linearSequentialSpec.post enc Tryz.prog Tryz.f8 false true false false) := by
  refine returnsInHanded_of_change (C := Tryz.checked) own started (by kernel_rfl) Tryz.func8
    (ChangeSpec.witness6 (enc := enc) (C := Tryz.checked) false ⟨#[], #[.slice none 0 0, .int .u8 0], []⟩ 8 (by kernel_rfl) (by kernel_rfl) (by kernel_rfl) (by kernel_rfl)) ?_
  intro W base args ds gs before hval0 hW hcnd _
  have hval : ∀ (j : Nat) t v, Tryz.f8.params[j]? = some t → args[j]? = some v → Value.okWide Tryz.prog W .any base t v := hval0
  have hW' := hW
  obtain ⟨p, q, hA0, hV, rfl, hfz, hnd⟩ := hW
  have hA : DataW.TrodAll enc Tryz.prog W 0 (fun _ => true) true Tryz.f8.params.toList args.toList ds p := hA0
  rw [Tryz.params8] at hA hval
  obtain ⟨v0, vs0, d0, ds0, p0, q0, hargs, rfl, rfl, h0, r0⟩ := trodAll_cons hA
  obtain ⟨v1, vs1, d1, ds1, p1, q1, rfl, rfl, rfl, h1, r1⟩ := trodAll_cons r0
  obtain ⟨rfl, rfl, rfl⟩ := trodAll_nil r1
  obtain rfl : args = #[v0, v1] := by cases args; simp_all
  obtain ⟨rfl, rfl⟩ := trodVars_none hV
  have k0' := h0
  have lt0 : ∀ x ∈ p0, x.block < W.heap.size := by obtain ⟨m, hm⟩ := h0; exact DataW.trod_lt m _ _ _ hm
  have k1' := h1
  have lt1 : ∀ x ∈ p1, x.block < W.heap.size := by obtain ⟨m, hm⟩ := h1; exact DataW.trod_lt m _ _ _ hm
  obtain ⟨a0, l0, c0, rfl⟩ := okWide_slice Tryz.underlying24 (hval 0 24 v0 rfl rfl)
  obtain ⟨z0, w0⟩ : ∃ zs, IsRow .i64 W a0 l0 c0 zs := by
    obtain ⟨fuel, hf⟩ := h0
    rcases open_ints Tryz.underlying24 Tryz.underlying3 (by kernel_rfl) hf with ⟨hcs, _⟩ | ⟨x, l, c, zs, hcs, _, hl, hm, hz, _, hcell, hwz⟩
    · simp [Value.cells] at hcs
      obtain ⟨rfl, rfl, rfl⟩ := hcs
      exact ⟨[], .inl ⟨rfl, rfl, rfl, rfl⟩⟩
    · simp [Value.cells] at hcs
      obtain ⟨rfl, rfl, rfl⟩ := hcs
      exact ⟨zs, .inr ⟨_, rfl, hl, hm, by simpa using hz, hcell, hwz⟩⟩
  obtain ⟨a1, rfl, _, _, w1⟩ := open_int Tryz.underlying5 (hval 1 5 v1 rfl rfl) h1
  clear hA0 hval0
  refine (walk a0 l0 c0 z0 a1 w1 W w0).mono fun e W' ⟨he, bel⟩ => ?_
  subst he
  exact ⟨_, rfl, _, _, _, [], _, [], hW', trodAll_mk1 (shut_bool Tryz.underlying4 _), (trodAll_cons_mk (Below.trod laidOut (by kernel_rfl) (of_decide_eq_true (by kernel_rfl)) k0' bel lt0) (trodAll_cons_mk (Below.trod laidOut (by kernel_rfl) (of_decide_eq_true (by kernel_rfl)) k1' bel lt1) trodAll_mk0)), rfl, bel.frame _, fun h => by cases h⟩

theorem over : Rows.linearSequentialRow.holds Tryz.pinned (OpenSpec.ofChange Rows.linearSequentialSpec) :=
  OpenClaim.holds_of_wide 8 Tryz.f8 rfl rfl rfl rfl rfl rfl rfl ⟨rfl, rfl, rfl, rfl, rfl⟩ rfl rfl rfl rfl rfl (by kernel_rfl) Tryz.func8 (by kernel_rfl)
    (of_decide_eq_true (by kernel_rfl)) (by unfold Func.isWrapper; first | (rw [if_pos (by decide +kernel)]; kernel_rfl) | (rw [if_neg (by decide +kernel)]; exact ⟨rfl, rfl⟩))
    (fun os started H enc _ => lifted os started H enc)
end Go.Proofs.YtnmhnjjehglcfaaGreat.linearSequential

namespace Go.Proofs.YtnmhnjjehglcfaaGreat
theorem linearSequential_holds : Rows.LinearSequentialSaid := linearSequential.over
end Go.Proofs.YtnmhnjjehglcfaaGreat
