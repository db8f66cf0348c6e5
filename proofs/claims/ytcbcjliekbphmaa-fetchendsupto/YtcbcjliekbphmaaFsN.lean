/- What the cells hold while a ring grows; writes and signatures. -/
import Derived.Test.YtcbcjliekbphmaaFsM
import Derived.Test.YtcbcjliekbphmaaGroV
namespace Go.Proofs.Ytcbcjliekbphmaa

def entE (g : GR) (t : Nat) : GE := g.l.getD (t - 1) noGE
/-- What is so of entries: cells that there are, signatures that hold them; none behind the first that isn't complete is begun. -/
structure Gw (g : GR) : Prop where
  c : ∀ e ∈ g.l, ∀ x ∈ e.w, 0 ≤ x.c ∧ x.c < 8
  s : ∀ e ∈ g.l, e.s = sigW e.w
  b : ∀ i, g.done < i → (g.l.getD i noGE).b = 0
def cellV (g : GR) (cell : Int) : Int := wrV cell (valV cell (g.l.take g.done)) ((curE g).w.take (curE g).b)
structure Gc (f : Ad → Int) (g : GR) : Prop where
  w : Gw g
  v : ∀ cell : Int, 0 ≤ cell → cell < 8 → f ⟨4, cell, 0⟩ = cellV g cell
/-- The writes of entries stay. -/
def StayW (g g' : GR) : Prop := g.l.length ≤ g'.l.length ∧ ∀ i, i < g.l.length → (g'.l.getD i noGE).w = (g.l.getD i noGE).w
theorem StayW.refl (g : GR) : StayW g g := ⟨Nat.le_refl _, fun _ _ => rfl⟩
theorem StayW.trans {a b c : GR} (h : StayW a b) (k : StayW b c) : StayW a c := ⟨Nat.le_trans h.1 k.1, fun i hi => (k.2 i (Nat.lt_of_lt_of_le hi h.1)).trans (h.2 i hi)⟩
theorem gc_zero (s : Nat) : Gc (wordOf []) ⟨s, [], 0, 0⟩ :=
  ⟨⟨fun e he => by simp at he, fun e he => by simp at he, fun i _ => by simp [noGE]⟩, fun cell _ _ => by rw [wordOf_nil]; rfl⟩
theorem getD_mem {l : List GE} {i : Nat} (h : i < l.length) : l.getD i noGE ∈ l := by
  rw [List.getD_eq_getElem?_getD, List.getElem?_eq_getElem h]; exact List.getElem_mem _
theorem getD_out {l : List GE} {i : Nat} (h : l.length ≤ i) : l.getD i noGE = noGE := by
  rw [List.getD_eq_getElem?_getD, List.getElem?_eq_none h]; rfl
theorem mem_getD {l : List GE} {e : GE} (h : e ∈ l) : ∃ i, i < l.length ∧ l.getD i noGE = e := by
  obtain ⟨i, hi, rfl⟩ := List.getElem_of_mem h
  exact ⟨i, hi, by rw [List.getD_eq_getElem?_getD, List.getElem?_eq_getElem hi]; rfl⟩
theorem getD_app' {l : List GE} {e : GE} {i : Nat} : (l ++ [e]).getD i noGE = if i < l.length then l.getD i noGE else if i = l.length then e else noGE := by
  split
  · next h => exact getD_app h
  · next h =>
    split
    · next h2 => subst h2; simp
    · next h2 => exact getD_out (by simp; omega)
theorem newE_c (S : List Wt) : ∀ x ∈ (newE S 8).w, 0 ≤ x.c ∧ x.c < 8 := by
  intro x hx
  unfold newE fitW at hx
  simp only [List.mem_map] at hx
  obtain ⟨y, _, rfl⟩ := hx
  simp only
  omega
theorem gc_pub {S : List Wt} {s : GR × List Ac} (h : Gc (wordOf s.2) s.1) (hk : GOk s.1) : Gc (wordOf (pubS 8 S s).2) (pubS 8 S s).1 ∧ StayW s.1 (pubS 8 S s).1 := by
  unfold pubS
  split
  · have hda := hk.da
    have han := hk.an
    refine ⟨⟨⟨fun e he x hx => ?_, fun e he => ?_, fun i hi => ?_⟩, fun cell h0 h8 => ?_⟩, by simp, fun i hi => ?_⟩
    · rcases List.mem_append.1 he with he | he
      · exact h.w.c e he x hx
      · simp at he; subst he; exact newE_c S x hx
    · rcases List.mem_append.1 he with he | he
      · exact h.w.s e he
      · simp at he; subst he; rfl
    · simp only at hi ⊢
      rw [getD_app']
      split
      · exact h.w.b i hi
      · split <;> rfl
    · simp only
      rw [storeL_far (by simp), h.v cell h0 h8]
      unfold cellV curE
      simp only
      rw [List.take_append_of_le_length (by omega), getD_app']
      split
      · rfl
      · next hd =>
        rw [getD_out (by omega)]
        split
        · rfl
        · rfl
    · simp only
      rw [getD_app hi]
  · exact ⟨h, StayW.refl _⟩
theorem gc_lay {s : GR × List Ac} (h : Gc (wordOf s.2) s.1) : Gc (wordOf (layS 8 s).2) (layS 8 s).1 ∧ StayW s.1 (layS 8 s).1 := by
  unfold layS layL layG
  simp only
  split
  · exact ⟨⟨⟨h.w.c, h.w.s, h.w.b⟩, fun cell h0 h8 => by rw [storeL_far (by simp), sigL_far _ _ _ _ _ _ _ (by simp), h.v cell h0 h8]; rfl⟩, Nat.le_refl _, fun _ _ => rfl⟩
  · exact ⟨h, StayW.refl _⟩
theorem bump_getD (l : List GE) (i j : Nat) : (bump l i).getD j noGE = if i = j ∧ i < l.length then ⟨(l.getD i noGE).w, (l.getD i noGE).s, (l.getD i noGE).b + 1⟩ else l.getD j noGE := by
  unfold bump
  simp only [List.getD_eq_getElem?_getD, List.getElem?_set]
  by_cases e : i = j
  · subst e
    by_cases h : i < l.length
    · simp [h]
    · simp [h]
  · simp [e]
theorem bump_take (l : List GE) (i : Nat) : (bump l i).take i = l.take i := by
  unfold bump
  rw [List.take_set_of_le (Nat.le_refl _)]
theorem gc_back {s : GR × List Ac} (h : Gc (wordOf s.2) s.1) (hk : GOk s.1) : Gc (wordOf (backS 8 s).2) (backS 8 s).1 ∧ StayW s.1 (backS 8 s).1 := by
  unfold backS backL backG
  simp only
  split
  · next e =>
    have han := hk.an
    have e' : s.1.done < s.1.laid ∧ (curE s.1).b < (curE s.1).w.length := by simpa [backOk] using e
    have hdl : s.1.done < s.1.l.length := by omega
    have hcm : curE s.1 ∈ s.1.l := getD_mem hdl
    have hwm : curW s.1 ∈ (curE s.1).w := by
      unfold curW
      rw [List.getD_eq_getElem?_getD, List.getElem?_eq_getElem e'.2]; exact List.getElem_mem _
    obtain ⟨c0, c8⟩ := h.w.c _ hcm _ hwm
    have hcur : ∀ sz ld, curE ⟨sz, bump s.1.l s.1.done, ld, s.1.done⟩ = ⟨(curE s.1).w, (curE s.1).s, (curE s.1).b + 1⟩ := fun sz ld => by
      unfold curE
      simp only
      rw [bump_getD, if_pos ⟨rfl, hdl⟩]
    refine ⟨⟨⟨fun q hq x hx => ?_, fun q hq => ?_, fun i hi => ?_⟩, fun cell h0 h8 => ?_⟩, by simp [bump_len], fun i hi => ?_⟩
    · obtain ⟨i, hi, rfl⟩ := mem_getD hq
      rw [bump_len] at hi
      rw [(bump_get s.1.l s.1.done i hi).1] at hx
      exact h.w.c _ (getD_mem hi) x hx
    · obtain ⟨i, hi, rfl⟩ := mem_getD hq
      rw [bump_len] at hi
      rw [(bump_get s.1.l s.1.done i hi).1, (bump_get s.1.l s.1.done i hi).2]
      exact h.w.s _ (getD_mem hi)
    · simp only at hi ⊢
      rw [bump_getD, if_neg (by omega)]
      exact h.w.b i hi
    · rw [storeL_is (by simp [isAd, c0, c8])]
      unfold cellV
      rw [hcur _ _]
      simp only
      rw [bump_take, wrV_one _ _ _ _ e'.2]
      have hv := h.v cell h0 h8
      unfold cellV at hv
      unfold upd
      by_cases ec : (curW s.1).c = cell
      · rw [if_pos (by rw [ec]), if_pos (show ((curE s.1).w.getD (curE s.1).b noWt).c = cell from ec)]
        rfl
      · rw [if_neg (fun hc => ec (by simpa using hc)), if_neg (show ¬ ((curE s.1).w.getD (curE s.1).b noWt).c = cell from ec)]
        exact hv
    · simp only
      exact (bump_get s.1.l s.1.done i hi).1
  · exact ⟨h, StayW.refl _⟩
theorem gc_end {s : GR × List Ac} (h : Gc (wordOf s.2) s.1) (hk : GOk s.1) : Gc (wordOf (endS 8 s).2) (endS 8 s).1 ∧ StayW s.1 (endS 8 s).1 := by
  unfold endS endL endG
  simp only
  split
  · next e =>
    have han := hk.an
    have e' : s.1.done < s.1.laid ∧ (curE s.1).b = (curE s.1).w.length := by simpa [endOk] using e
    refine ⟨⟨⟨h.w.c, h.w.s, fun i hi => h.w.b i (by simp only at hi; omega)⟩, fun cell h0 h8 => ?_⟩, Nat.le_refl _, fun _ _ => rfl⟩
    rw [storeL_far (by simp), h.v cell h0 h8]
    unfold cellV
    rw [e'.2, List.take_length]
    have hb : (curE ⟨s.1.size, s.1.l, s.1.laid, s.1.done + 1⟩).b = 0 := h.w.b _ (by simp only; omega)
    rw [hb]
    simp only
    rw [valV_one _ _ _ (by omega)]
    rfl
  · exact ⟨h, StayW.refl _⟩
theorem gc_backs {s : GR × List Ac} (h : Gc (wordOf s.2) s.1) (hk : GOk s.1) (n : Nat) : Gc (wordOf (backsS 8 s n).2) (backsS 8 s n).1 ∧ StayW s.1 (backsS 8 s n).1 := by
  induction n with
  | zero => exact ⟨h, StayW.refl _⟩
  | succ n ih =>
    obtain ⟨h1, h2⟩ := gc_back ih.1 (gok_backs hk n)
    exact ⟨h1, ih.2.trans h2⟩
theorem gc_open {s : GR × List Ac} (h : Gc (wordOf s.2) s.1) : Gc (wordOf (openS 8 s).2) (openS 8 s).1 ∧ StayW s.1 (openS 8 s).1 := by
  unfold openS
  split
  · exact gc_lay h
  · exact ⟨h, StayW.refl _⟩
theorem gc_all {s : GR × List Ac} (h : Gc (wordOf s.2) s.1) (hk : GOk s.1) : Gc (wordOf (allS 8 s).2) (allS 8 s).1 ∧ StayW s.1 (allS 8 s).1 := by
  obtain ⟨a1, a2⟩ := gc_open h
  unfold allS
  split
  · obtain ⟨b1, b2⟩ := gc_backs a1 (gok_open hk) 4
    obtain ⟨c1, c2⟩ := gc_end b1 (gok_backs (gok_open hk) 4)
    exact ⟨c1, a2.trans (b2.trans c2)⟩
  · exact ⟨a1, a2⟩
theorem gc_act {k : Int} {S : List Wt} {s : GR × List Ac} (h : Gc (wordOf s.2) s.1) (hk : GOk s.1) : Gc (wordOf (actS 8 k S s).2) (actS 8 k S s).1 ∧ StayW s.1 (actS 8 k S s).1 := by
  unfold actS
  repeat' split
  · exact gc_pub h hk
  · exact gc_lay h
  · exact gc_back h hk
  · exact gc_end h hk
  · exact gc_all h hk
/-- What entries make of a cell, while their writes stay. -/
theorem valV_same {l l' : List GE} {cell : Int} (n : Nat) (h1 : n ≤ l.length) (h2 : n ≤ l'.length) (h : ∀ i, i < n → (l'.getD i noGE).w = (l.getD i noGE).w) : valV cell (l'.take n) = valV cell (l.take n) := by
  induction n with
  | zero => rfl
  | succ n ih => rw [valV_one _ _ _ (by omega), valV_one _ _ _ (by omega), ih (by omega) (by omega) (fun i hi => h i (by omega)), h n (by omega)]
theorem valueV_stay {g g' : GR} {cell z : Int} (h : StayW g g') (hz : z ≤ (g.l.length : Int)) : valueV g' cell z = valueV g cell z :=
  valV_same _ (by omega) (by have := h.1; omega) (fun i hi => h.2 i (by omega))
/-- Does the entry of a stamp write a cell? -/
def Wrt (g : GR) (cell : Int) (t : Nat) : Prop := ∃ x ∈ (entE g t).w, x.c = cell
theorem wrV_none {cell v : Int} {W : List Wt} (h : ∀ x ∈ W, x.c ≠ cell) : wrV cell v W = v := by
  unfold wrV
  induction W generalizing v with
  | nil => rfl
  | cons x W ih =>
    rw [List.foldl_cons, if_neg (h x (by simp))]
    exact ih (fun y hy => h y (by simp [hy]))
theorem wrt_stay {g g' : GR} {cell : Int} {t : Nat} (h : StayW g g') (h1 : 1 ≤ t) (h2 : t ≤ g.l.length) : Wrt g' cell t ↔ Wrt g cell t := by
  unfold Wrt entE
  rw [h.2 (t - 1) (by omega)]
theorem valV_none {g : GR} {cell : Int} (a n : Nat) (ha : a ≤ n) (hn : n ≤ g.l.length) (h : ∀ t, a < t → t ≤ n → ¬ Wrt g cell t) : valV cell (g.l.take n) = valV cell (g.l.take a) := by
  induction n with
  | zero => rw [show a = 0 by omega]
  | succ n ih =>
    by_cases e : a = n + 1
    · rw [e]
    · rw [valV_one _ _ _ (by omega), wrV_none, ih (by omega) (by omega) (fun t h1 h2 => h t h1 (by omega))]
      intro x hx hc
      exact h (n + 1) (by omega) (Nat.le_refl _) ⟨x, hx, hc⟩
theorem valueV_none {g : GR} {cell z n : Int} (h0 : 0 ≤ z) (hz : z ≤ n) (hn : n ≤ (g.l.length : Int)) (h : ∀ t : Nat, z < (t : Int) → (t : Int) ≤ n → ¬ Wrt g cell t) : valueV g cell n = valueV g cell z :=
  valV_none _ _ (by omega) (by omega) (fun t h1 h2 => h t (by omega) (by omega))
/-- What the memory's cell is, if none of the entries above a stamp writes it. -/
theorem cellV_none {g : GR} {cell z : Int} (hk : GOk g) (h0 : 0 ≤ z) (hz : z ≤ (g.done : Int)) (h : ∀ t : Nat, z < (t : Int) → t ≤ g.l.length → ¬ Wrt g cell t) : cellV g cell = valueV g cell z := by
  have hda := hk.da
  have han := hk.an
  unfold cellV
  rw [wrV_none]
  · have := valueV_none (g := g) (cell := cell) (n := (g.done : Int)) h0 hz (by omega) (fun t h1 h2 => h t h1 (by omega))
    rw [← this]
    unfold valueV
    simp
  · intro x hx hc
    have hx' := List.mem_of_mem_take hx
    by_cases e : g.done < g.l.length
    · exact h (g.done + 1) (by omega) (by omega) ⟨x, hx', hc⟩
    · unfold curE at hx'
      rw [getD_out (by omega)] at hx'
      simp [noGE] at hx'
theorem ok_sigW (W : List Wt) : Sg.Ok (sigW W) := by
  unfold sigW
  suffices h : ∀ s, Sg.Ok s → Sg.Ok (W.foldl (fun s x => Sg.put s (Sg.sigN x.c)) s) from h _ Sg.ok_nought
  induction W with
  | nil => exact fun s h => h
  | cons x W ih => exact fun s h => ih _ (Sg.ok_put h _ (Sg.sigN_lt _))
theorem bit_sigW {W : List Wt} {x : Wt} (h : x ∈ W) : Sg.bit (sigW W) (Sg.sigN x.c) = true := by
  unfold sigW
  have mono : ∀ (W : List Wt) s, Sg.Ok s → ∀ k, Sg.bit s k = true → Sg.bit (W.foldl (fun s x => Sg.put s (Sg.sigN x.c)) s) k = true := by
    intro W
    induction W with
    | nil => exact fun s _ k h => h
    | cons y W ih => exact fun s hs k hb => ih _ (Sg.ok_put hs _ (Sg.sigN_lt _)) k (by rw [Sg.bit_put hs _ _ (Sg.sigN_lt _), hb]; rfl)
  suffices hh : ∀ s, Sg.Ok s → Sg.bit (W.foldl (fun s x => Sg.put s (Sg.sigN x.c)) s) (Sg.sigN x.c) = true from hh _ Sg.ok_nought
  induction W with
  | nil => simp at h
  | cons y W ih =>
    intro s hs
    rw [List.foldl_cons]
    rcases List.mem_cons.1 h with rfl | h
    · exact mono W _ (Sg.ok_put hs _ (Sg.sigN_lt _)) _ (by rw [Sg.bit_put hs _ _ (Sg.sigN_lt _)]; simp)
    · exact ih h _ (Sg.ok_put hs _ (Sg.sigN_lt _))
theorem clash_wrt {g : GR} {cell : Int} {rd : List Nat} {t : Nat} (hw : Gw g) (h1 : 1 ≤ t) (h2 : t ≤ g.l.length) (h : Wrt g cell t) (hb : Sg.bit rd (Sg.sigN cell) = true) : Clash g rd t := by
  obtain ⟨x, hx, rfl⟩ := h
  have hm : entE g t ∈ g.l := getD_mem (by omega)
  have hs : Sg.bit (entE g t).s (Sg.sigN x.c) = true := by rw [hw.s _ hm]; exact bit_sigW hx
  refine ⟨Sg.sigN x.c / 64, by have := Sg.sigN_lt x.c; omega, fun e => ?_⟩
  unfold Sg.bit at hs hb
  have : (eS g t (Sg.sigN x.c / 64) &&& rd.getD (Sg.sigN x.c / 64) 0).testBit (Sg.sigN x.c % 64) = true := by
    rw [Nat.testBit_and, hb]
    rw [Bool.and_true]; exact hs
  rw [e] at this
  simp at this
/-- Where nothing clashes, the entries don't write a cell whose bit was read. -/
theorem clean_wrt {g : GR} {P : Cp} {cell u : Int} {t : Nat} (hw : Gw g) (hz : 0 ≤ P.z) (hb : Sg.bit P.rd (Sg.sigN cell) = true) (hc : Clean g P u) (h1 : P.z < (t : Int)) (h2 : (t : Int) < u) (h3 : t ≤ g.l.length) : ¬ Wrt g cell t :=
  fun h => hc t h1 h2 (clash_wrt hw (by omega) h3 h hb)
end Go.Proofs.Ytcbcjliekbphmaa
