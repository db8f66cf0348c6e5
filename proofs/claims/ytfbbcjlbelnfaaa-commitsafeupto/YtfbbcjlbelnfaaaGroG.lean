/- What the ring's words say while it grows in the order of its stamps; what a machine of layer 7 finds there. -/
import Derived.Test.YtfbbcjlbelnfaaaGroE
import Derived.Test.YtfbbcjlbelnfaaaGroF
import Derived.Test.YtfbbcjlbelnfaaaJMemMBegM
import Derived.Test.YtfbbcjlbelnfaaaRngA
namespace Go.Proofs.Ytfbbcjlbelnfaaa

def hdZ (D : Nat) (t : Int) : Int := if t ≤ 0 then 1 else if t ≤ (D : Int) then 2 * t + 1 else 2 * t
structure Gz (f : Ad → Int) (g : GR) : Prop where
  n : f ⟨1, 0, 0⟩ = (g.l.length : Int)
  nd : g.l.length ≤ g.done + g.size
  h : ∀ t : Int, (g.laid : Int) - (g.size : Int) < t → t ≤ (g.laid : Int) → f ⟨2, t % (g.size : Int), 0⟩ = hdZ g.done t
theorem zmod_inj {s t u : Int} (h : t % s = u % s) (h1 : t - u < s) (h2 : u - t < s) : t = u := by
  by_cases hlt : u ≤ t
  · have := Int.emod_eq_emod_iff_emod_sub_eq_zero.mp h
    rw [Int.emod_eq_of_lt (by omega) h1] at this
    omega
  · have := Int.emod_eq_emod_iff_emod_sub_eq_zero.mp h.symm
    rw [Int.emod_eq_of_lt (by omega) h2] at this
    omega
theorem zupd_same (f : Ad → Int) (a : Ad) (z : Int) : upd f a z a = z := by simp [upd]
theorem zupd_other {f : Ad → Int} {a b : Ad} {z : Int} (h : a ≠ b) : upd f a z b = f b := by simp [upd, h]
theorem gz_zero (s : Nat) : Gz (wordOf []) ⟨s, [], 0, 0⟩ :=
  ⟨rfl, by simp, fun t _ ht => by
    rw [wordOf_nil]
    unfold hdZ
    simp only at ht
    rw [if_pos (by omega)]
    rfl⟩
theorem storeL_is {c r : Nat} {L : List Ac} {t : Int} {a : Ad} {z : Int} (h : isAd c r a = true) : wordOf (storeL c r L t a z) = upd (wordOf L) a z := by
  unfold storeL
  rw [if_pos h, wordOf_hit (Or.inl rfl)]
theorem storeL_far {c r : Nat} {L : List Ac} {t : Int} {a b : Ad} {z : Int} (h : a ≠ b) : wordOf (storeL c r L t a z) b = wordOf L b := by
  unfold storeL
  split
  · rw [wordOf_hit (Or.inl rfl)]; exact zupd_other h
  · rfl
theorem sigL_far (c r : Nat) (L : List Ac) (k : Int) (s : List Nat) (n : Nat) (b : Ad) (hb : b.k ≠ 3) : wordOf (sigL c r L k s n) b = wordOf L b := by
  induction n with
  | zero => rfl
  | succ n ih =>
    unfold sigL
    rw [storeL_far (fun e => hb (by rw [← e])), ih]
theorem headAd {c : Nat} {g : GR} (hk : GOk g) (t : Int) : isAd c g.size ⟨2, t % (g.size : Int), 0⟩ = true := by
  have h1 := hk.s1
  have h2 := Int.emod_nonneg t (show (g.size : Int) ≠ 0 by omega)
  have h3 := Int.emod_lt_of_pos t (show (0 : Int) < (g.size : Int) by omega)
  simp [isAd, h2, h3]
theorem gz_pub {c : Nat} {S : List Wt} {s : GR × List Ac} (h : Gz (wordOf s.2) s.1) : Gz (wordOf (pubS c S s).2) (pubS c S s).1 := by
  unfold pubS
  split
  · next e =>
    have e' : (s.1.l.length : Int) - (s.1.done : Int) < (s.1.size : Int) := by simpa [pubOk] using e
    simp only
    rw [storeL_is (by rfl)]
    exact ⟨by rw [zupd_same]; simp, by simp; omega, fun t h1 h2 => by rw [zupd_other (by simp)]; exact h.h t h1 h2⟩
  · exact h
theorem gz_lay {c : Nat} {s : GR × List Ac} (h : Gz (wordOf s.2) s.1) (hk : GOk s.1) : Gz (wordOf (layS c s).2) (layS c s).1 := by
  unfold layS layL layG
  simp only
  split
  · next e =>
    have hs := hk.s1
    have hda := hk.da
    rw [storeL_is (headAd hk _)]
    refine ⟨by rw [zupd_other (by simp), sigL_far _ _ _ _ _ _ _ (by simp)]; exact h.n, h.nd, fun t h1 h2 => ?_⟩
    simp only at h1 h2 ⊢
    by_cases et : t = (s.1.laid : Int) + 1
    · subst et
      rw [zupd_same]
      unfold hdZ
      rw [if_neg (by omega), if_neg (by omega)]
    · rw [zupd_other (fun e' => et (by simp at e'; exact (zmod_inj e' (by omega) (by omega)).symm)), sigL_far _ _ _ _ _ _ _ (by simp)]
      exact h.h t (by omega) (by omega)
  · exact h
theorem gz_back {c : Nat} {s : GR × List Ac} (h : Gz (wordOf s.2) s.1) : Gz (wordOf (backS c s).2) (backS c s).1 := by
  unfold backS backL backG
  simp only
  split
  · exact ⟨by rw [storeL_far (by simp)]; simp only [bump_len]; exact h.n, by simp only [bump_len]; exact h.nd, fun t h1 h2 => by rw [storeL_far (by simp)]; exact h.h t h1 h2⟩
  · exact h
theorem gz_end {c : Nat} {s : GR × List Ac} (h : Gz (wordOf s.2) s.1) (hk : GOk s.1) : Gz (wordOf (endS c s).2) (endS c s).1 := by
  unfold endS endL endG
  simp only
  split
  · next e =>
    have hs := hk.s1
    have han := hk.an
    have hnd := h.nd
    have hda : s.1.done < s.1.laid := by simp [endOk] at e; exact e.1
    rw [storeL_is (headAd hk _)]
    refine ⟨by rw [zupd_other (by simp)]; exact h.n, by simp only; omega, fun t h1 h2 => ?_⟩
    simp only at h1 h2 ⊢
    by_cases et : t = (s.1.done : Int) + 1
    · subst et
      rw [zupd_same]
      unfold hdZ
      rw [if_neg (by omega), if_pos (by omega)]
    · rw [zupd_other (fun e' => et (by simp at e'; exact (zmod_inj e' (by omega) (by omega)).symm)), h.h t h1 h2]
      unfold hdZ
      by_cases h0 : t ≤ 0
      · rw [if_pos h0, if_pos h0]
      · rw [if_neg h0, if_neg h0]
        by_cases h3 : t ≤ (s.1.done : Int)
        · rw [if_pos h3, if_pos (by omega)]
        · rw [if_neg h3, if_neg (by omega)]
  · exact h
theorem gz_backs {c : Nat} {s : GR × List Ac} (h : Gz (wordOf s.2) s.1) (n : Nat) : Gz (wordOf (backsS c s n).2) (backsS c s n).1 := by
  induction n with
  | zero => exact h
  | succ n ih => exact gz_back ih
theorem gz_open {c : Nat} {s : GR × List Ac} (h : Gz (wordOf s.2) s.1) (hk : GOk s.1) : Gz (wordOf (openS c s).2) (openS c s).1 := by
  unfold openS
  split
  · exact gz_lay h hk
  · exact h
theorem gz_all {c : Nat} {s : GR × List Ac} (h : Gz (wordOf s.2) s.1) (hk : GOk s.1) : Gz (wordOf (allS c s).2) (allS c s).1 := by
  unfold allS
  split
  · exact gz_end (gz_backs (gz_open h hk) 4) (gok_backs (gok_open hk) 4)
  · exact gz_open h hk
/-- One act. -/
def actS (c : Nat) (k : Int) (S : List Wt) (s : GR × List Ac) : GR × List Ac := if k % 5 = 0 then pubS c S s else if k % 5 = 1 then layS c s else if k % 5 = 2 then backS c s else if k % 5 = 3 then endS c s else allS c s
theorem gz_act {c : Nat} {k : Int} {S : List Wt} {s : GR × List Ac} (h : Gz (wordOf s.2) s.1) (hk : GOk s.1) : Gz (wordOf (actS c k S s).2) (actS c k S s).1 := by
  unfold actS
  repeat' split
  · exact gz_pub h
  · exact gz_lay h hk
  · exact gz_back h
  · exact gz_end h hk
  · exact gz_all h hk
theorem done_lay {c : Nat} {s : GR × List Ac} : (layS c s).1.done = s.1.done ∧ (layS c s).1.size = s.1.size ∧ (layS c s).1.l = s.1.l := by
  unfold layS layG
  split <;> exact ⟨rfl, rfl, rfl⟩
theorem done_back {c : Nat} {s : GR × List Ac} : (backS c s).1.done = s.1.done ∧ (backS c s).1.size = s.1.size ∧ (backS c s).1.l.length = s.1.l.length := by
  unfold backS backG
  split
  · exact ⟨rfl, rfl, bump_len _ _⟩
  · exact ⟨rfl, rfl, rfl⟩
theorem done_end {c : Nat} {s : GR × List Ac} : s.1.done ≤ (endS c s).1.done ∧ (endS c s).1.size = s.1.size ∧ (endS c s).1.l = s.1.l := by
  unfold endS endG
  split
  · exact ⟨by simp, rfl, rfl⟩
  · exact ⟨Nat.le_refl _, rfl, rfl⟩
theorem done_backs {c : Nat} {s : GR × List Ac} (n : Nat) : (backsS c s n).1.done = s.1.done ∧ (backsS c s n).1.size = s.1.size ∧ (backsS c s n).1.l.length = s.1.l.length := by
  induction n with
  | zero => exact ⟨rfl, rfl, rfl⟩
  | succ n ih =>
    obtain ⟨a1, a2, a3⟩ := done_back (c := c) (s := backsS c s n)
    exact ⟨a1.trans ih.1, a2.trans ih.2.1, a3.trans ih.2.2⟩
theorem done_open {c : Nat} {s : GR × List Ac} : (openS c s).1.done = s.1.done ∧ (openS c s).1.size = s.1.size ∧ (openS c s).1.l = s.1.l := by
  unfold openS
  split
  · exact done_lay
  · exact ⟨rfl, rfl, rfl⟩
theorem done_all {c : Nat} {s : GR × List Ac} : s.1.done ≤ (allS c s).1.done ∧ (allS c s).1.size = s.1.size ∧ (allS c s).1.l.length = s.1.l.length := by
  obtain ⟨o1, o2, o3⟩ := done_open (c := c) (s := s)
  unfold allS
  split
  · obtain ⟨a1, a2, a3⟩ := done_end (c := c) (s := backsS c (openS c s) 4)
    obtain ⟨b1, b2, b3⟩ := done_backs (c := c) (s := openS c s) 4
    exact ⟨by omega, by rw [a2, b2, o2], by rw [a3, b3, o3]⟩
  · exact ⟨by omega, o2, by rw [o3]⟩
theorem act_grows {c : Nat} {k : Int} {S : List Wt} {s : GR × List Ac} : s.1.done ≤ (actS c k S s).1.done ∧ (actS c k S s).1.size = s.1.size ∧ (actS c k S s).1.l.length ≤ s.1.l.length + 1 := by
  unfold actS
  repeat' split
  · unfold pubS
    split
    · exact ⟨Nat.le_refl _, rfl, by simp⟩
    · exact ⟨Nat.le_refl _, rfl, by omega⟩
  · obtain ⟨a1, a2, a3⟩ := done_lay (c := c) (s := s)
    exact ⟨by omega, a2, by rw [a3]; omega⟩
  · obtain ⟨a1, a2, a3⟩ := done_back (c := c) (s := s)
    exact ⟨by omega, a2, by omega⟩
  · obtain ⟨a1, a2, a3⟩ := done_end (c := c) (s := s)
    exact ⟨a1, a2, by rw [a3]; omega⟩
  · obtain ⟨a1, a2, a3⟩ := done_all (c := c) (s := s)
    exact ⟨a1, a2, by omega⟩
theorem gok_act {c : Nat} {k : Int} {S : List Wt} {s : GR × List Ac} (h : GOk s.1) (hl : s.1.l.length + 1 ≤ 1073741824) : GOk (actS c k S s).1 := by
  unfold actS
  repeat' split
  · unfold pubS
    split
    · exact ⟨h.s1, h.s16, h.da, by have := h.an; simp; omega, by simp; omega⟩
    · exact h
  · exact gok_lay h
  · exact gok_back h
  · exact gok_end h
  · exact gok_all h
theorem act_len {c : Nat} {k : Int} {S : List Wt} {s : GR × List Ac} : (actS c k S s).2.length ≤ s.2.length + 14 := by
  unfold actS
  repeat' split
  · unfold pubS
    split
    · have := storeL_len8 c s.1.size s.2 (-1) ⟨1, 0, 0⟩ ((s.1.l.length : Int) + 1)
      simp only
      omega
    · omega
  · have := layS_len c s; omega
  · have := backS_len c s; omega
  · have := endS_len c s; omega
  · exact allS_len c s

/-! ### what is over -/
theorem gz_over {f : Ad → Int} {g : GR} (h : Gz f g) (hk : GOk g) (t : Int) (h1 : 1 ≤ t) (h2 : t ≤ (g.l.length : Int)) : overV (f ⟨2, t % (g.size : Int), 0⟩) t = decide (t ≤ (g.done : Int)) := by
  have hs := hk.s1
  have hda := hk.da
  have han := hk.an
  have hnd := h.nd
  have hs0 : (g.size : Int) ≠ 0 := by omega
  have key : ∀ (z : Int), overV z t = true ↔ (z / 2 > t ∨ z / 2 = t ∧ z % 2 = 1) := fun z => by
    unfold overV laidV
    simp
    omega
  rw [Bool.eq_iff_iff, key]
  simp only [decide_eq_true_eq]
  by_cases hl : t ≤ (g.laid : Int)
  · by_cases hlo : (g.laid : Int) - (g.size : Int) < t
    · rw [h.h t hlo hl]
      unfold hdZ
      rw [if_neg (by omega)]
      split <;> omega
    · have hq : (t + (g.size : Int) * (((g.laid : Int) - t) / (g.size : Int))) % (g.size : Int) = t % (g.size : Int) := Int.add_mul_emod_self_left _ _ _
      have hm := Int.emod_nonneg ((g.laid : Int) - t) hs0
      have hm2 := Int.emod_lt_of_pos ((g.laid : Int) - t) (show (0 : Int) < (g.size : Int) by omega)
      have hd := Int.mul_ediv_add_emod ((g.laid : Int) - t) (g.size : Int)
      generalize hu : (g.size : Int) * (((g.laid : Int) - t) / (g.size : Int)) = u at *
      rw [← hq, h.h (t + u) (by omega) (by omega)]
      unfold hdZ
      rw [if_neg (by omega)]
      split <;> omega
  · have hq : (t - (g.size : Int)) % (g.size : Int) = t % (g.size : Int) := by simp
    rw [← hq, h.h (t - (g.size : Int)) (by omega) (by omega)]
    unfold hdZ
    split
    · omega
    · split <;> omega

/-- A machine over a ring that grows: at its first step so much was complete, and that was the newest stamp. -/
structure Sn (g : GR) (b : Bg) (least newest steps : Nat) : Prop where
  c : (steps = 0 ∧ b = bgNew) ∨ (1 ≤ steps ∧ b.seen = (newest : Int) ∧ least ≤ g.done ∧ newest ≤ least + g.size ∧ newest ≤ g.l.length ∧
    ((b.st = 1 ∧ 1 ≤ b.stamp ∧ b.stamp ≤ (newest : Int) ∧ (newest : Int) - (g.size : Int) < b.stamp ∧ (least : Int) ≤ b.stamp) ∨ (b.st = 2 ∧ (least : Int) ≤ b.stamp ∧ b.stamp ≤ (g.done : Int))))
theorem sn_act {c : Nat} {k : Int} {S : List Wt} {s : GR × List Ac} {b : Bg} {least newest steps : Nat} (h : Sn s.1 b least newest steps) (hl : s.1.l.length ≤ (actS c k S s).1.l.length) : Sn (actS c k S s).1 b least newest steps := by
  obtain ⟨a1, a2, _⟩ := act_grows (c := c) (k := k) (S := S) (s := s)
  refine ⟨?_⟩
  rcases h.c with h | ⟨h1, h2, h3, h4, h5, h6⟩
  · exact Or.inl h
  · refine Or.inr ⟨h1, h2, by omega, by omega, by omega, ?_⟩
    rcases h6 with ⟨c1, c2, c3, c4, c5⟩ | ⟨c1, c2, c3⟩
    · exact Or.inl ⟨c1, c2, c3, by omega, c5⟩
    · exact Or.inr ⟨c1, c2, by omega⟩
theorem sn_step {f : Ad → Int} {g : GR} {b : Bg} {least newest steps : Nat} (h : Sn g b least newest steps) (hz : Gz f g) (hk : GOk g) (hb : b.st ≠ 2) :
    Sn g (stepV g.size b (f (adV g.size b))) (if steps = 0 then g.done else least) (if steps = 0 then g.l.length else newest) (steps + 1) := by
  have hs := hk.s1
  have hda := hk.da
  have han := hk.an
  have hnd := hz.nd
  have hsz : sizeOk (g.size : Int) = true := sizeOk_iff.mpr ⟨by omega, by have := hk.s16; omega⟩
  refine ⟨Or.inr ?_⟩
  rcases h.c with ⟨rfl, rfl⟩ | ⟨h1, h2, h3, h4, h5, h6⟩
  · have ha : adV g.size bgNew = ⟨1, 0, 0⟩ := rfl
    rw [ha, hz.n, if_pos rfl, if_pos rfl]
    unfold stepV seeV
    rw [if_pos (show bgNew.st = 0 from rfl)]
    by_cases e : (g.l.length : Int) < 1
    · rw [if_pos e]
      exact ⟨by omega, rfl, by omega, by omega, by omega, Or.inr ⟨rfl, by simp only; omega, by simp only; omega⟩⟩
    · rw [if_neg e]
      exact ⟨by omega, rfl, by omega, by omega, by omega, Or.inl ⟨rfl, by simp only; omega, by simp only; omega, by simp only; omega, by simp only; omega⟩⟩
  · rw [if_neg (by omega), if_neg (by omega)]
    rcases h6 with ⟨c1, c2, c3, c4, c5⟩ | ⟨c1, _⟩
    · have ha : adV g.size b = ⟨2, b.stamp % (g.size : Int), 0⟩ := by
        unfold adV slotV
        rw [if_neg (by omega), if_pos hsz]
      have ho := gz_over hz hk b.stamp c2 (by omega)
      rw [ha]
      unfold stepV lookV
      rw [if_neg (by omega), if_pos c1, ho]
      by_cases e : b.stamp ≤ (g.done : Int)
      · rw [if_pos (by simpa using e)]
        exact ⟨by omega, h2, h3, h4, h5, Or.inr ⟨rfl, c5, e⟩⟩
      · rw [if_neg (by simpa using e)]
        by_cases e2 : b.stamp - 1 < 1 ∨ b.stamp - 1 = b.seen - (g.size : Int)
        · rw [if_pos e2]
          exact ⟨by omega, h2, h3, h4, h5, Or.inr ⟨rfl, by simp only; omega, by simp only; omega⟩⟩
        · rw [if_neg e2]
          exact ⟨by omega, h2, h3, h4, h5, Or.inl ⟨rfl, by simp only; omega, by simp only; omega, by simp only; omega, by simp only; omega⟩⟩
    · exact absurd c1 hb
theorem len_act {c : Nat} {k : Int} {S : List Wt} {s : GR × List Ac} : s.1.l.length ≤ (actS c k S s).1.l.length := by
  unfold actS
  repeat' split
  · unfold pubS
    split
    · simp
    · omega
  · rw [done_lay.2.2]; omega
  · rw [done_back.2.2]; omega
  · rw [done_end.2.2]; omega
  · rw [done_all.2.2]; omega
end Go.Proofs.Ytfbbcjlbelnfaaa
