/- What a machine of layer 8 finds in a ring that grows in the order of its stamps. -/
import Derived.Test.YtfbbcjlbelnfaaaGroG
import Derived.Test.YtfbbcjlbelnfaaaCqW
namespace Go.Proofs.Ytfbbcjlbelnfaaa
open Go.RowKit (wrap64)

def eS (g : GR) (t j : Nat) : Nat := (g.l.getD (t - 1) noGE).s.getD j 0
/-- What the ring's words say of signatures. -/
structure Gs (f : Ad → Int) (g : GR) : Prop where
  h : ∀ t : Nat, 1 ≤ t → g.laid < t + g.size → t ≤ g.laid → ∀ j : Nat, j < 8 → f ⟨3, (t : Int) % (g.size : Int), (j : Int)⟩ = wrap64 ((eS g t j : Nat) : Int)
  w : ∀ k j : Int, W64 (f ⟨3, k, j⟩)
theorem wrap64_w (x : Int) : W64 (wrap64 x) := by unfold W64 wrap64; omega
theorem gs_zero (s : Nat) : Gs (wordOf []) ⟨s, [], 0, 0⟩ := ⟨fun t h1 _ h2 => by simp only at h2; omega, fun k j => by rw [wordOf_nil]; unfold first W64; split <;> decide⟩
theorem sigL_hit {c r : Nat} {L : List Ac} {k : Int} {s : List Nat} (hk : 0 ≤ k ∧ k < (r : Int)) {n j : Nat} (hj : j < n) (hn : n ≤ 8) : wordOf (sigL c r L k s n) ⟨3, k, (j : Int)⟩ = wrap64 ((s.getD j 0 : Nat) : Int) := by
  induction n with
  | zero => omega
  | succ n ih =>
    unfold sigL
    by_cases e : j = n
    · subst e
      rw [storeL_is (by have h8 : (j : Int) < 8 := by omega
                        simp [isAd, hk.1, hk.2, h8]), zupd_same]
    · rw [storeL_far (fun h => e (by simp at h; omega))]
      exact ih (by omega) (by omega)
theorem sigL_miss {c r : Nat} {L : List Ac} {k : Int} {s : List Nat} {n : Nat} {k' j : Int} (h : k' ≠ k) : wordOf (sigL c r L k s n) ⟨3, k', j⟩ = wordOf L ⟨3, k', j⟩ := by
  induction n with
  | zero => rfl
  | succ n ih =>
    unfold sigL
    rw [storeL_far (fun e => h (by simp at e; exact e.1.symm)), ih]
theorem sigL_w {c r : Nat} {L : List Ac} {k : Int} {s : List Nat} {n : Nat} (h : ∀ k j : Int, W64 (wordOf L ⟨3, k, j⟩)) (k' j : Int) : W64 (wordOf (sigL c r L k s n) ⟨3, k', j⟩) := by
  induction n with
  | zero => exact h k' j
  | succ n ih =>
    unfold sigL storeL
    split
    · rw [wordOf_hit (Or.inl rfl)]
      unfold upd
      split
      · exact wrap64_w _
      · exact ih
    · exact ih
theorem store_w {c r : Nat} {L : List Ac} {t : Int} {a : Ad} {z : Int} (ha : a.k ≠ 3) (h : ∀ k j : Int, W64 (wordOf L ⟨3, k, j⟩)) (k' j : Int) : W64 (wordOf (storeL c r L t a z) ⟨3, k', j⟩) := by
  rw [storeL_far (fun e => ha (by rw [e]))]; exact h k' j
theorem getD_app {l : List GE} {e : GE} {i : Nat} (h : i < l.length) : (l ++ [e]).getD i noGE = l.getD i noGE := by simp only [List.getD_eq_getElem?_getD, List.getElem?_append_left h]
theorem bump_s (l : List GE) (i k : Nat) : ((bump l i).getD k noGE).s = (l.getD k noGE).s := by
  unfold bump
  simp only [List.getD_eq_getElem?_getD, List.getElem?_set]
  by_cases e : i = k
  · subst e
    rw [if_pos rfl]
    by_cases h : i < l.length
    · rw [if_pos h]
      simp [h]
    · rw [if_neg h, List.getElem?_eq_none (by omega)]
  · rw [if_neg e]
/-- The signatures of entries stay. -/
def Stay (g g' : GR) : Prop := g.l.length ≤ g'.l.length ∧ g.laid ≤ g'.laid ∧ g.done ≤ g'.done ∧ g'.size = g.size ∧ ∀ t j : Nat, 1 ≤ t → t ≤ g.l.length → eS g' t j = eS g t j
theorem Stay.refl (g : GR) : Stay g g := ⟨Nat.le_refl _, Nat.le_refl _, Nat.le_refl _, rfl, fun _ _ _ _ => rfl⟩
theorem Stay.trans {a b c : GR} (h : Stay a b) (k : Stay b c) : Stay a c := ⟨Nat.le_trans h.1 k.1, Nat.le_trans h.2.1 k.2.1, Nat.le_trans h.2.2.1 k.2.2.1, k.2.2.2.1.trans h.2.2.2.1, fun t j h1 h2 => (k.2.2.2.2 t j h1 (Nat.le_trans h2 h.1)).trans (h.2.2.2.2 t j h1 h2)⟩
theorem gs_pub {c : Nat} {S : List Wt} {s : GR × List Ac} (h : Gs (wordOf s.2) s.1) (hk : GOk s.1) : Gs (wordOf (pubS c S s).2) (pubS c S s).1 ∧ Stay s.1 (pubS c S s).1 := by
  unfold pubS
  split
  · have han := hk.an
    refine ⟨⟨fun t h1 h2 h3 j hj => ?_, fun k' j => by simp only; exact store_w (by simp) h.w k' j⟩, ⟨by simp, Nat.le_refl _, Nat.le_refl _, rfl, fun t j h1 h2 => ?_⟩⟩
    · simp only at h2 h3 ⊢
      rw [storeL_far (by simp), h.h t h1 h2 h3 j hj]
      unfold eS
      simp only
      rw [getD_app (by omega)]
    · unfold eS
      simp only
      rw [getD_app (by omega)]
  · exact ⟨h, Stay.refl _⟩
theorem gs_lay {c : Nat} {s : GR × List Ac} (h : Gs (wordOf s.2) s.1) (hk : GOk s.1) : Gs (wordOf (layS c s).2) (layS c s).1 ∧ Stay s.1 (layS c s).1 := by
  unfold layS layL layG
  simp only
  split
  · next e =>
    have hs := hk.s1
    have hm := Int.emod_nonneg ((s.1.laid : Int) + 1) (show (s.1.size : Int) ≠ 0 by omega)
    have hm2 := Int.emod_lt_of_pos ((s.1.laid : Int) + 1) (show (0 : Int) < (s.1.size : Int) by omega)
    refine ⟨⟨fun t h1 h2 h3 j hj => ?_, store_w (by simp) (sigL_w h.w)⟩, ⟨Nat.le_refl _, by simp, Nat.le_refl _, rfl, fun _ _ _ _ => rfl⟩⟩
    simp only at h2 h3 ⊢
    rw [storeL_far (by simp)]
    by_cases et : t = s.1.laid + 1
    · subst et
      rw [show (((s.1.laid + 1 : Nat)) : Int) = (s.1.laid : Int) + 1 by omega, sigL_hit ⟨hm, hm2⟩ hj (Nat.le_refl _)]
      rfl
    · rw [sigL_miss (fun e' => et (by have := zmod_inj e' (by omega) (by omega); omega))]
      exact h.h t h1 (by omega) (by omega) j hj
  · exact ⟨h, Stay.refl _⟩
theorem gs_back {c : Nat} {s : GR × List Ac} (h : Gs (wordOf s.2) s.1) : Gs (wordOf (backS c s).2) (backS c s).1 ∧ Stay s.1 (backS c s).1 := by
  unfold backS backL backG
  simp only
  split
  · refine ⟨⟨fun t h1 h2 h3 j hj => ?_, store_w (by simp) h.w⟩, ⟨by simp [bump_len], Nat.le_refl _, Nat.le_refl _, rfl, fun t j _ _ => ?_⟩⟩
    · rw [storeL_far (by simp), h.h t h1 h2 h3 j hj]
      unfold eS
      simp only
      rw [bump_s]
    · unfold eS
      simp only
      rw [bump_s]
  · exact ⟨h, Stay.refl _⟩
theorem gs_end {c : Nat} {s : GR × List Ac} (h : Gs (wordOf s.2) s.1) : Gs (wordOf (endS c s).2) (endS c s).1 ∧ Stay s.1 (endS c s).1 := by
  unfold endS endL endG
  simp only
  split
  · refine ⟨⟨fun t h1 h2 h3 j hj => ?_, store_w (by simp) h.w⟩, ⟨Nat.le_refl _, Nat.le_refl _, by simp, rfl, fun _ _ _ _ => rfl⟩⟩
    rw [storeL_far (by simp), h.h t h1 h2 h3 j hj]
    rfl
  · exact ⟨h, Stay.refl _⟩
theorem gs_backs {c : Nat} {s : GR × List Ac} (h : Gs (wordOf s.2) s.1) (n : Nat) : Gs (wordOf (backsS c s n).2) (backsS c s n).1 ∧ Stay s.1 (backsS c s n).1 := by
  induction n with
  | zero => exact ⟨h, Stay.refl _⟩
  | succ n ih =>
    obtain ⟨h1, h2⟩ := gs_back (c := c) ih.1
    exact ⟨h1, ih.2.trans h2⟩
theorem gs_open {c : Nat} {s : GR × List Ac} (h : Gs (wordOf s.2) s.1) (hk : GOk s.1) : Gs (wordOf (openS c s).2) (openS c s).1 ∧ Stay s.1 (openS c s).1 := by
  unfold openS
  split
  · exact gs_lay h hk
  · exact ⟨h, Stay.refl _⟩
theorem gs_all {c : Nat} {s : GR × List Ac} (h : Gs (wordOf s.2) s.1) (hk : GOk s.1) : Gs (wordOf (allS c s).2) (allS c s).1 ∧ Stay s.1 (allS c s).1 := by
  obtain ⟨o1, o2⟩ := gs_open (c := c) h hk
  unfold allS
  split
  · obtain ⟨b1, b2⟩ := gs_backs (c := c) o1 4
    obtain ⟨e1, e2⟩ := gs_end (c := c) b1
    exact ⟨e1, (o2.trans b2).trans e2⟩
  · exact ⟨o1, o2⟩
theorem gs_act {c : Nat} {k : Int} {S : List Wt} {s : GR × List Ac} (h : Gs (wordOf s.2) s.1) (hk : GOk s.1) : Gs (wordOf (actS c k S s).2) (actS c k S s).1 ∧ Stay s.1 (actS c k S s).1 := by
  unfold actS
  repeat' split
  · exact gs_pub h hk
  · exact gs_lay h hk
  · exact gs_back h
  · exact gs_end h
  · exact gs_all h hk

/-! ### what a machine finds -/
def Clash (g : GR) (rd : List Nat) (t : Nat) : Prop := ∃ j, j < 8 ∧ (eS g t j &&& rd.getD j 0) ≠ 0
def Clean (g : GR) (P : Cp) (u : Int) : Prop := ∀ t : Nat, P.z < (t : Int) → (t : Int) < u → ¬ Clash g P.rd t
structure Sf (g : GR) (P : Cp) (b : Ck) : Prop where
  z : P.z ≤ (g.done : Int)
  sz : P.s = g.size
  last : P.last = true
  c : b.st = 0 ∨ b.st = 5 ∨
    (b.st = 1 ∧ b.seen ≤ (g.l.length : Int) ∧ b.comp ≤ (g.done : Int) ∧ ((g.l.length : Int) ≤ P.z + (g.size : Int) → Clean g P b.stamp)) ∨
    (b.st = 2 ∧ b.seen ≤ (g.l.length : Int) ∧ b.comp ≤ (g.done : Int) ∧ b.stamp ≤ (g.laid : Int) ∧ ((g.l.length : Int) ≤ P.z + (g.size : Int) → Clean g P b.stamp ∧ ∀ j : Nat, (j : Int) < b.word → (eS g b.stamp.toNat j &&& P.rd.getD j 0) = 0)) ∨
    (b.st = 3 ∧ b.seen ≤ (g.l.length : Int) ∧ b.comp ≤ (g.done : Int) ∧ ((g.l.length : Int) ≤ P.z + (g.size : Int) → Clean g P (b.seen + 1))) ∨
    (b.st = 4 ∧ b.seen ≤ (g.l.length : Int) ∧ P.z ≤ b.comp ∧ b.comp ≤ (g.done : Int) ∧ Clean g P (b.seen + 1))
theorem clean_stay {g g' : GR} {P : Cp} {u : Int} (hs : Stay g g') (hz : 0 ≤ P.z) (hu : u ≤ (g.l.length : Int) + 1) (h : Clean g P u) : Clean g' P u := fun t h1 h2 hc => by
  obtain ⟨j, hj, hc⟩ := hc
  rw [hs.2.2.2.2 t j (by omega) (by omega)] at hc
  exact h t h1 h2 ⟨j, hj, hc⟩
theorem sf_stay {g g' : GR} {P : Cp} {b : Ck} {n : Nat} (h : Sf g P b) (hk : KOk P b n) (hs : Stay g g') : Sf g' P b := by
  obtain ⟨s1, s2, s3, s4, s5⟩ := id hs
  have hz := hk.p.z0
  have hz' := h.z
  refine ⟨by omega, by rw [h.sz, s4], h.last, ?_⟩
  rcases h.c with e | e | ⟨e, h1, h2, h3⟩ | ⟨e, h1, h2, h3, h4⟩ | ⟨e, h1, h2, h3⟩ | ⟨e, h1, h2, h3, h4⟩
  · exact Or.inl e
  · exact Or.inr (Or.inl e)
  · have km := (kok_mid hk (Or.inl e)).1.hi
    exact Or.inr (Or.inr (Or.inl ⟨e, by omega, by omega, fun hl => clean_stay hs hz (by omega) (h3 (by rw [s4] at hl; omega))⟩))
  · have km := (kok_mid hk (Or.inr (Or.inl e))).1.hi
    have kl := (kok_mid hk (Or.inr (Or.inl e))).1.lo
    refine Or.inr (Or.inr (Or.inr (Or.inl ⟨e, by omega, by omega, by omega, fun hl => ?_⟩)))
    obtain ⟨c1, c2⟩ := h4 (by rw [s4] at hl; omega)
    exact ⟨clean_stay hs hz (by omega) c1, fun j hj => by rw [s5 _ j (by omega) (by omega)]; exact c2 j hj⟩
  · exact Or.inr (Or.inr (Or.inr (Or.inr (Or.inl ⟨e, by omega, by omega, fun hl => clean_stay hs hz (by omega) (h3 (by rw [s4] at hl; omega))⟩))))
  · exact Or.inr (Or.inr (Or.inr (Or.inr (Or.inr ⟨e, by omega, h2, by omega, clean_stay hs hz (by omega) h4⟩))))

/-- What the head word of a stamp's slot says. -/
theorem gz_head {f : Ad → Int} {g : GR} (h : Gz f g) (hk : GOk g) (t : Int) (h1 : 1 ≤ t) (h2 : t ≤ (g.l.length : Int)) :
    (t ≤ (g.laid : Int) ∧ (g.laid : Int) < t + (g.size : Int) ∧ f ⟨2, t % (g.size : Int), 0⟩ / 2 = t ∧ (f ⟨2, t % (g.size : Int), 0⟩ % 2 = 1 ↔ t ≤ (g.done : Int))) ∨
    (t + (g.size : Int) ≤ (g.laid : Int) ∧ t < f ⟨2, t % (g.size : Int), 0⟩ / 2) ∨
    ((g.laid : Int) < t ∧ f ⟨2, t % (g.size : Int), 0⟩ / 2 < t) := by
  have hs := hk.s1
  have hda := hk.da
  have han := hk.an
  have hnd := h.nd
  have hs0 : (g.size : Int) ≠ 0 := by omega
  by_cases hl : t ≤ (g.laid : Int)
  · by_cases hlo : (g.laid : Int) - (g.size : Int) < t
    · refine Or.inl ⟨hl, by omega, ?_⟩
      rw [h.h t hlo hl]
      unfold hdZ
      rw [if_neg (by omega)]
      split <;> constructor <;> omega
    · have hq : (t + (g.size : Int) * (((g.laid : Int) - t) / (g.size : Int))) % (g.size : Int) = t % (g.size : Int) := Int.add_mul_emod_self_left _ _ _
      have hm := Int.emod_nonneg ((g.laid : Int) - t) hs0
      have hm2 := Int.emod_lt_of_pos ((g.laid : Int) - t) (show (0 : Int) < (g.size : Int) by omega)
      have hd := Int.mul_ediv_add_emod ((g.laid : Int) - t) (g.size : Int)
      generalize hu : (g.size : Int) * (((g.laid : Int) - t) / (g.size : Int)) = u at *
      refine Or.inr (Or.inl ⟨by omega, ?_⟩)
      rw [← hq, h.h (t + u) (by omega) (by omega)]
      unfold hdZ
      rw [if_neg (by omega)]
      split <;> omega
  · have hq : (t - (g.size : Int)) % (g.size : Int) = t % (g.size : Int) := by simp
    refine Or.inr (Or.inr ⟨by omega, ?_⟩)
    rw [← hq, h.h (t - (g.size : Int)) (by omega) (by omega)]
    unfold hdZ
    split
    · omega
    · split <;> omega
/-- Which entry's signature lies in a stamp's slot. -/
theorem gs_word {f : Ad → Int} {g : GR} (h : Gs f g) (hk : GOk g) (t : Int) (h1 : 1 ≤ t) (h2 : t ≤ (g.laid : Int)) {j : Nat} (hj : j < 8) :
    ∃ u : Nat, t ≤ (u : Int) ∧ u ≤ g.laid ∧ ((g.laid : Int) < t + (g.size : Int) → (u : Int) = t) ∧ f ⟨3, t % (g.size : Int), (j : Int)⟩ = wrap64 ((eS g u j : Nat) : Int) := by
  have hs := hk.s1
  have hs0 : (g.size : Int) ≠ 0 := by omega
  have hq : (t + (g.size : Int) * (((g.laid : Int) - t) / (g.size : Int))) % (g.size : Int) = t % (g.size : Int) := Int.add_mul_emod_self_left _ _ _
  have hm := Int.emod_nonneg ((g.laid : Int) - t) hs0
  have hm2 := Int.emod_lt_of_pos ((g.laid : Int) - t) (show (0 : Int) < (g.size : Int) by omega)
  have hd := Int.mul_ediv_add_emod ((g.laid : Int) - t) (g.size : Int)
  have hd0 : 0 ≤ ((g.laid : Int) - t) / (g.size : Int) := Int.ediv_nonneg (by omega) (by omega)
  have hp : 0 ≤ (g.size : Int) * (((g.laid : Int) - t) / (g.size : Int)) := Int.mul_nonneg (by omega) hd0
  have hz : (g.laid : Int) < t + (g.size : Int) → (g.size : Int) * (((g.laid : Int) - t) / (g.size : Int)) = 0 := fun e => by
    rw [Int.ediv_eq_zero_of_lt (by omega) (by omega)]; simp
  generalize hu : (g.size : Int) * (((g.laid : Int) - t) / (g.size : Int)) = u at *
  obtain ⟨v, hv⟩ : ∃ v : Nat, t + u = (v : Int) := ⟨(t + u).toNat, by omega⟩
  refine ⟨v, by omega, by omega, fun e => by have := hz e; omega, ?_⟩
  rw [← hq, hv]
  exact h.h v (by omega) (by omega) (by omega) j hj
theorem wrapU_64 {x : Nat} (h : x < 18446744073709551616) : (IntKind.u64.wrap (wrap64 (x : Int))).toNat = x := by
  rw [IntKind.wrap_u64]
  unfold wrap64
  omega
theorem hit_is {rd : List Nat} {j x : Nat} (h : x < 18446744073709551616) : hitV rd j (wrap64 (x : Int)) = ((x &&& rd.getD j 0) != 0) := by unfold hitV; rw [wrapU_64 h]
theorem nx_zero {rd : List Nat} {k j : Nat} (h : k ≤ 8) (h1 : k ≤ j) (h2 : j < nxW rd k) : rd.getD j 0 = 0 := (nxW_hit rd k h).2 j h1 h2
/-- An entry is looked at whole: on to the next stamp. -/
theorem sf_on {g : GR} {P : Cp} {b : Ck} (hz : P.z ≤ (g.done : Int)) (hs : P.s = g.size) (hl : P.last = true) (h1 : b.seen ≤ (g.l.length : Int)) (h2 : b.comp ≤ (g.done : Int)) (hle : b.stamp ≤ b.seen) (h3 : (g.l.length : Int) ≤ P.z + (g.size : Int) → Clean g P (b.stamp + 1)) : Sf g P (stampOn P b) := by
  refine ⟨hz, hs, hl, ?_⟩
  unfold stampOn
  by_cases e : b.stamp < b.seen
  · rw [if_pos e]
    exact Or.inr (Or.inr (Or.inl ⟨rfl, h1, h2, h3⟩))
  · rw [if_neg e, if_pos hl]
    have he : b.stamp = b.seen := by omega
    exact Or.inr (Or.inr (Or.inr (Or.inr (Or.inl ⟨rfl, h1, h2, fun h => by simp only; rw [← he]; exact h3 h⟩))))
theorem sf_word {g : GR} {P : Cp} {b : Ck} (hz : P.z ≤ (g.done : Int)) (hs : P.s = g.size) (hl : P.last = true) (hw : -1 ≤ b.word ∧ b.word ≤ 7) (h0 : 1 ≤ b.stamp) (h1 : b.seen ≤ (g.l.length : Int)) (h2 : b.comp ≤ (g.done : Int)) (hle : b.stamp ≤ b.seen) (hla : b.stamp ≤ (g.laid : Int))
    (h3 : (g.l.length : Int) ≤ P.z + (g.size : Int) → Clean g P b.stamp ∧ ∀ j : Nat, (j : Int) < b.word + 1 → (eS g b.stamp.toNat j &&& P.rd.getD j 0) = 0) : Sf g P (wordOn P b) := by
  obtain ⟨hw1, hw2⟩ := hw
  have hb := nxW_bd P.rd (b.word + 1).toNat (by omega)
  have hall : (g.l.length : Int) ≤ P.z + (g.size : Int) → ∀ j : Nat, j < nxW P.rd (b.word + 1).toNat → (eS g b.stamp.toNat j &&& P.rd.getD j 0) = 0 := fun h j hj => by
    by_cases e : (j : Int) < b.word + 1
    · exact (h3 h).2 j e
    · rw [nx_zero (k := (b.word + 1).toNat) (by omega) (by omega) hj]; simp
  unfold wordOn
  by_cases e : nxW P.rd (b.word + 1).toNat < 8
  · rw [if_pos e]
    exact ⟨hz, hs, hl, Or.inr (Or.inr (Or.inr (Or.inl ⟨rfl, h1, h2, hla, fun h => ⟨(h3 h).1, fun j hj => hall h j (by simp only at hj; omega)⟩⟩)))⟩
  · rw [if_neg e]
    refine sf_on hz hs hl h1 h2 hle (fun h t t1 t2 hc => ?_)
    simp only at t2
    by_cases et : (t : Int) < b.stamp
    · exact (h3 h).1 t t1 et hc
    · obtain rfl : t = b.stamp.toNat := by omega
      obtain ⟨j, hj, hc⟩ := hc
      exact hc (hall h j (by omega))
theorem sf_step {f : Ad → Int} {g : GR} {P : Cp} {b : Ck} {n : Nat} (h : Sf g P b) (hk : KOk P b n) (ht : ¬ thr b) (hz : Gz f g) (hg : Gs f g) (ho : GOk g) (hok : ∀ e ∈ g.l, Sg.Ok e.s) :
    Sf g P (stepK P b (f (adK P b))) ∧ ((stepK P b (f (adK P b))).err = 3 → ∃ t : Nat, P.z < (t : Int) ∧ t ≤ g.l.length ∧ Clash g P.rd t) ∧ ((stepK P b (f (adK P b))).err = 4 → P.z + (g.size : Int) < (g.l.length : Int)) ∧ (waitK b (f (adK P b)) = true → g.done ≠ g.l.length) := by
  have hs1 := ho.s1
  have hda := ho.da
  have han := ho.an
  have hsz : sizeOk (P.s : Int) = true := by rw [h.sz]; exact sizeOk_iff.mpr ⟨by omega, by have := ho.s16; omega⟩
  have hzz := h.z
  have hp0 := hk.p.z0
  have hlt : ∀ t j, eS g t j < 18446744073709551616 := fun t j => by
    unfold eS
    by_cases e : t - 1 < g.l.length
    · refine (hok _ ?_).2 j
      simp only [List.getD_eq_getElem?_getD]
      rw [List.getElem?_eq_getElem e]; simp
    · have hn : g.l.getD (t - 1) noGE = noGE := by simp only [List.getD_eq_getElem?_getD]; rw [List.getElem?_eq_none (by omega)]; rfl
      rw [hn]
      exact Sg.ok_nought.2 j
  rcases h.c with e | e | ⟨e, h1, h2, h3⟩ | ⟨e, h1, h2, h3, h4⟩ | ⟨e, h1, h2, h3⟩ | ⟨e, _⟩
  · have hb := kok_zero hk e
    have ha : adK P b = ⟨1, 0, 0⟩ := by unfold adK; rw [if_neg (by omega), if_neg (by omega)]
    rw [ha, hz.n]
    have hS : stepK P b (g.l.length : Int) = seeK P (ckNew P) (g.l.length : Int) := by unfold stepK; rw [if_pos e, hb]
    rw [hS]
    refine ⟨?_, ?_, ?_, fun hw => by unfold waitK at hw; simp [e] at hw⟩
    all_goals unfold seeK
    · split
      · next hc =>
        refine ⟨hzz, h.sz, h.last, Or.inr (Or.inr (Or.inr (Or.inr (Or.inr ⟨rfl, Int.le_refl _, Int.le_refl _, hzz, fun t t1 t2 hcl => ?_⟩))))⟩
        obtain ⟨j, hj, hcl⟩ := hcl
        rcases hc with hc | hc
        · rw [hc] at hcl
          have : Sg.nought.getD j 0 = 0 := by
            rcases j with _ | _ | _ | _ | _ | _ | _ | _ | j
            all_goals first
              | rfl
              | omega
          rw [this] at hcl
          simp at hcl
        · simp only at t2; omega
      · next hc =>
        split
        · exact ⟨hzz, h.sz, h.last, Or.inr (Or.inl rfl)⟩
        · unfold onV
          rw [if_neg (by simp [ckNew]), if_neg (by simp [ckNew]), if_pos (show (ckNew P).st = 0 from rfl)]
          exact sf_on hzz h.sz h.last (Int.le_refl _) hzz (by simp only [ckNew]; omega) (fun _ t t1 t2 => by simp only [ckNew] at t2; omega)
    · split
      · intro hc; simp [ckNew] at hc
      · split
        · intro hc; simp [failV] at hc
        · intro hc; rw [onV_err] at hc; simp [ckNew] at hc
    · split
      · intro hc; simp [ckNew] at hc
      · split
        · next hf => intro _; unfold farV at hf; simp at hf; rw [h.sz] at hf; omega
        · intro hc; rw [onV_err] at hc; simp [ckNew] at hc
  · exact absurd (Or.inr e) ht
  · have km := (kok_mid hk (Or.inl e)).1
    have kl := km.lo
    have kh := km.hi
    have kc := km.c2
    have ha : adK P b = ⟨2, b.stamp % (g.size : Int), 0⟩ := by unfold adK slotV; rw [if_pos e, if_pos hsz, h.sz]
    rw [ha]
    have hh := gz_head hz ho b.stamp (by omega) (by omega)
    generalize f ⟨2, b.stamp % (g.size : Int), 0⟩ = v at *
    have hS : stepK P b v = lookK P b v := by unfold stepK; rw [if_neg (by omega), if_pos e]
    rw [hS]
    have hla : laidV v b.stamp = true ↔ v / 2 = b.stamp := by unfold laidV; simp
    have hov : overV v b.stamp = true ↔ (v / 2 > b.stamp ∨ v / 2 = b.stamp ∧ v % 2 = 1) := by
      unfold overV laidV
      simp
      omega
    rcases hh with ⟨a1, a2, a3, a4⟩ | ⟨a1, a2⟩ | ⟨a1, a2⟩
    · have hL : laidV v b.stamp = true := hla.mpr a3
      have hK : lookK P b v = wordOn P ⟨b.st, b.seen, b.stamp, -1, compV b v, b.err⟩ := by unfold lookK onV; rw [if_pos hL]; simp only; rw [if_pos e]
      rw [hK]
      have hcv : compV b v ≤ (g.done : Int) := by
        unfold compV
        split
        · next hc =>
          have := hov.mp hc.1
          have h5 : v % 2 = 1 := by omega
          exact a4.mp h5
        · exact h2
      refine ⟨sf_word hzz h.sz h.last ⟨by simp, by simp⟩ (by simp only; omega) h1 hcv kh a1 (fun hl => ⟨h3 hl, fun j hj => by simp only at hj; omega⟩), fun hc => ?_, fun hc => ?_, fun hw => ?_⟩
      · rw [wordOn_err] at hc; simp only at hc; rw [km.e] at hc; omega
      · rw [wordOn_err] at hc; simp only at hc; rw [km.e] at hc; omega
      · unfold waitK at hw; rw [hL] at hw; simp at hw
    · have hL : ¬ laidV v b.stamp = true := fun hc => by have := hla.mp hc; omega
      have hO : overV v b.stamp = true := hov.mpr (Or.inl a2)
      have hK : lookK P b v = failV b 4 := by unfold lookK; rw [if_neg hL, if_pos hO]
      rw [hK]
      refine ⟨⟨hzz, h.sz, h.last, Or.inr (Or.inl rfl)⟩, fun hc => by simp [failV] at hc, fun _ => by omega, fun hw => ?_⟩
      unfold waitK at hw; rw [hO] at hw; simp at hw
    · have hL : ¬ laidV v b.stamp = true := fun hc => by have := hla.mp hc; omega
      have hO : ¬ overV v b.stamp = true := fun hc => by have := hov.mp hc; omega
      have hK : lookK P b v = b := by unfold lookK; rw [if_neg hL, if_neg hO]
      rw [hK]
      exact ⟨h, fun hc => by rw [km.e] at hc; omega, fun hc => by rw [km.e] at hc; omega, fun _ hd => by omega⟩
  · obtain ⟨km, hwd⟩ := kok_mid hk (Or.inr (Or.inl e))
    obtain ⟨w1, w2⟩ := hwd e
    have kl := km.lo
    have kh := km.hi
    obtain ⟨j, hj⟩ : ∃ j : Nat, b.word = (j : Int) := ⟨b.word.toNat, by omega⟩
    have ha : adK P b = ⟨3, b.stamp % (g.size : Int), (j : Int)⟩ := by unfold adK slotV; rw [if_neg (by omega), if_pos e, if_pos hsz, h.sz, hj]
    obtain ⟨u, u1, u2, u3, u4⟩ := gs_word hg ho b.stamp (by omega) h3 (show j < 8 by omega)
    rw [ha, u4]
    have hS : stepK P b (wrap64 ((eS g u j : Nat) : Int)) = holdK P b (wrap64 ((eS g u j : Nat) : Int)) := by unfold stepK; rw [if_neg (by omega), if_neg (by omega), if_pos e]
    rw [hS]
    have hH : hitV P.rd b.word.toNat (wrap64 ((eS g u j : Nat) : Int)) = ((eS g u j &&& P.rd.getD j 0) != 0) := by rw [hj, Int.toNat_natCast]; exact hit_is (hlt u j)
    have hwt : ∀ v, ¬ waitK b v = true := fun v hw => by unfold waitK at hw; simp [e] at hw
    by_cases hc : (eS g u j &&& P.rd.getD j 0) = 0
    · have hK : holdK P b (wrap64 ((eS g u j : Nat) : Int)) = wordOn P b := by
        unfold holdK onV
        rw [hH, hc, if_neg (by decide), if_neg (by omega), if_pos e]
      rw [hK]
      refine ⟨sf_word hzz h.sz h.last ⟨by omega, by omega⟩ (by omega) h1 h2 kh h3 (fun hl => ⟨(h4 hl).1, fun q hq => ?_⟩), fun hx => ?_, fun hx => ?_, fun hw => absurd hw (hwt _)⟩
      · by_cases eq : (q : Int) < b.word
        · exact (h4 hl).2 q eq
        · obtain rfl : q = j := by omega
          have : (u : Int) = b.stamp := u3 (by omega)
          rw [show b.stamp.toNat = u by omega]
          exact hc
      · rw [wordOn_err, km.e] at hx; omega
      · rw [wordOn_err, km.e] at hx; omega
    · have hK : holdK P b (wrap64 ((eS g u j : Nat) : Int)) = failV b 3 := by
        unfold holdK
        rw [hH, if_pos (bne_iff_ne.2 hc)]
      rw [hK]
      exact ⟨⟨hzz, h.sz, h.last, Or.inr (Or.inl rfl)⟩, fun _ => ⟨u, by omega, by omega, j, by omega, hc⟩, fun hx => by simp [failV] at hx, fun hw => absurd hw (hwt _)⟩
  · have km := (kok_mid hk (Or.inr (Or.inr e))).1
    have kc := km.c1
    have ha : adK P b = ⟨1, 0, 0⟩ := by unfold adK; rw [if_neg (by omega), if_neg (by omega)]
    rw [ha, hz.n]
    have hS : stepK P b (g.l.length : Int) = againK P b (g.l.length : Int) := by unfold stepK; rw [if_neg (by omega), if_neg (by omega), if_neg (by omega), if_pos e]
    rw [hS]
    by_cases hf : farV P (g.l.length : Int) = true
    · have hK : againK P b (g.l.length : Int) = failV b 4 := by unfold againK; rw [if_pos hf]
      rw [hK]
      exact ⟨⟨hzz, h.sz, h.last, Or.inr (Or.inl rfl)⟩, fun hx => by simp [failV] at hx, fun _ => by unfold farV at hf; simp at hf; rw [h.sz] at hf; omega, fun hw => by unfold waitK at hw; simp [e] at hw⟩
    · have hK : againK P b (g.l.length : Int) = ⟨4, b.seen, b.stamp, b.word, b.comp, b.err⟩ := by
        unfold againK onV
        rw [if_neg hf, if_neg (by omega), if_neg (by omega), if_neg (by omega)]
      rw [hK]
      have hn : (g.l.length : Int) ≤ P.z + (g.size : Int) := by
        unfold farV at hf
        rw [h.sz] at hf
        simp only [Bool.and_eq_true, decide_eq_true_eq, not_and] at hf
        omega
      exact ⟨⟨hzz, h.sz, h.last, Or.inr (Or.inr (Or.inr (Or.inr (Or.inr ⟨rfl, h1, kc, h2, h3 hn⟩))))⟩, fun hx => by simp only at hx; rw [km.e] at hx; omega, fun hx => by simp only at hx; rw [km.e] at hx; omega, fun hw => by unfold waitK at hw; simp [e] at hw⟩
  · exact absurd (Or.inl e) ht
end Go.Proofs.Ytfbbcjlbelnfaaa
